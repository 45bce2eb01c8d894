/- Plain functions on lists of bytes: what the document's answer (the text package) does, said without the program; and facts on them. Walks of the small functions on bytes (nothing is said of the program beyond them). Small facts on worlds: a block that holds just some cells; what old blocks do while new ones are made. Worlds: below a bound all but some blocks are as they were. Facts on the steps of a spot. Rows: their parts, their kinds; what the document's cutting makes of them. Facts on splitting. What Check answers to a report by its form. The form of a report: how the document's spots go on over pieces of a text. The form of a report, on: operands with a sign; where a text stops. The shape of rows without blanks: how cutting them goes over their pieces. Expressions, terms and factors without blanks: each is cut as the document says. Operands; what reading a factor, a term, an expression comes to. The reader: where it lies, what a call leaves of the rest; walks of skipBlanks, next. -/
import Derived.KernelRfl
import Derived.Test.YtdchbenfccofpaaRows
import Derived.WalkKit
import Derived.WalkSpells
import Derived.WalkLawsBesides
import Derived.Deep.QuietTactic
import Derived.BigQuiet
import Derived.Deep.Draws
import Derived.Maps.AppendAt
import Derived.Deep.LoopGhost
namespace Db

/-- The bytes of a string. -/
def L (s : ByteArray) : List UInt8 := s.data.toList
theorem L_length (s : ByteArray) : (L s).length = s.size := by unfold L; rw [Array.length_toList]; rfl
theorem L_get (s : ByteArray) (k : Nat) (h : k < s.size) : (L s)[k]'(by rw [L_length]; exact h) = s[k] := by simp [L]; rfl
theorem L_get? (s : ByteArray) (k : Nat) (h : k < s.size) : (L s)[k]? = some s[k] := by
  rw [List.getElem?_eq_getElem (by rw [L_length]; exact h), L_get]
theorem L_drop (s : ByteArray) (k : Nat) (h : k < s.size) : (L s).drop k = s[k] :: (L s).drop (k + 1) := by
  rw [List.drop_eq_getElem_cons (by rw [L_length]; exact h), L_get]
theorem L_drop_end (s : ByteArray) (k : Nat) (h : s.size ≤ k) : (L s).drop k = [] := List.drop_eq_nil_of_le (by rw [L_length]; exact h)
theorem L_append (s t : ByteArray) : L (s ++ t) = L s ++ L t := by simp [L]
theorem L_extract (s : ByteArray) (a b : Nat) : L (s.extract a b) = ((L s).drop a).take (b - a) := by
  simp [L, ByteArray.data_extract, List.extract_eq_take_drop]
theorem L_inj {s t : ByteArray} (h : L s = L t) : s = t := by
  cases s; cases t; simp [L] at h; rw [h]

theorem L_take_succ (s : ByteArray) (k : Nat) (h : k < s.size) : (L s).take (k + 1) = (L s).take k ++ [s[k]] := by
  rw [List.take_succ_eq_append_getElem (by rw [L_length]; exact h), L_get]
theorem L_take_end (s : ByteArray) (k : Nat) (h : s.size ≤ k) : (L s).take k = L s := List.take_of_length_le (by rw [L_length]; exact h)
theorem L_one (s : ByteArray) (k : Nat) (h : k < s.size) : L (s.extract k (k + 1)) = [s[k]] := by
  rw [L_extract, L_drop s k h]; simp
theorem L_empty : L ⟨#[]⟩ = [] := rfl

/-- The value of digits, from n on. -/
def valGo (n : Int) : List UInt8 → Int
  | [] => n
  | c :: r => valGo (10 * n + ((c.toNat : Int) - 48)) r
def val (l : List UInt8) : Int := valGo 0 l
def isDig (c : UInt8) : Prop := 48 ≤ c.toNat ∧ c.toNat ≤ 57

/-- A text without its blanks. -/
def bare (l : List UInt8) : List UInt8 := l.filter fun c => c.toNat != 32

theorem bare_append (a b : List UInt8) : bare (a ++ b) = bare a ++ bare b := by simp [bare]
theorem bare_blank {c : UInt8} (h : c.toNat = 32) : bare [c] = [] := by simp [bare, h]
theorem bare_other {c : UInt8} (h : ¬ c.toNat = 32) : bare [c] = [c] := by simp [bare, h]
theorem bare_le (a : List UInt8) : (bare a).length ≤ a.length := List.length_filter_le _ _

/-- The parts of a text between the bytes c. -/
def splitGo (c : UInt8) (acc : List (List UInt8)) (cur : List UInt8) : List UInt8 → List (List UInt8)
  | [] => acc ++ [cur]
  | x :: r => if x = c then splitGo c (acc ++ [cur]) [] r else splitGo c acc (cur ++ [x]) r
def split (l : List UInt8) (c : UInt8) : List (List UInt8) := splitGo c [] [] l

/-- A byte (as a number) is a digit; one of @ ! #; one of $ <; one of + - * /. -/
def digB (c : Int) : Bool := decide (48 ≤ c) && decide (c ≤ 57)
def selB (c : Int) : Bool := c == 64 || c == 33 || c == 35
def oldB (c : Int) : Bool := c == 36 || c == 60
def opB (c : Int) : Bool := c == 43 || c == 45 || c == 42 || c == 47

/-- Stands an operation between two operands at c, when p stands ahead of it (-1: nothing)? -/
def binB (p c : Int) : Bool := opB c && (digB p || p == 41)
def dep (k c : Int) : Int := if c == 40 then k + 1 else if c == 41 then k - 1 else k
def hit (a b p k at_ i c : Int) : Int := if binB p c && k == 0 && (c == a || c == b) then i else at_

/-- Where the operation a or b stands that is worked out last. -/
def finGo (a b : Int) (p k at_ i : Int) : List UInt8 → Int
  | [] => at_
  | c :: r => finGo a b c.toNat (dep k c.toNat) (hit a b p (dep k c.toNat) at_ i c.toNat) (i + 1) r
def fin (l : List UInt8) (a b : Int) : Int := finGo a b (-1) 0 (-1) 0 l

theorem finGo_lt (a b : Int) (l : List UInt8) : ∀ p k at_ i : Int, at_ < i → finGo a b p k at_ i l < i + l.length := by
  induction l with
  | nil => intro p k at_ i h; simpa [finGo] using h
  | cons c r ih =>
    intro p k at_ i h
    have := ih c.toNat (dep k c.toNat) (hit a b p (dep k c.toNat) at_ i c.toNat) (i + 1) (by unfold hit; split <;> omega)
    simp only [finGo, List.length_cons]
    omega
theorem fin_lt (l : List UInt8) (a b : Int) : fin l a b < l.length := by
  have := finGo_lt a b l (-1) 0 (-1) 0 (by omega)
  unfold fin; omega

/-- Where an expression is cut; -1: nowhere. -/
def cutAt (l : List UInt8) : Int := if fin l 43 45 < 0 then fin l 42 47 else fin l 43 45
theorem cutAt_lt (l : List UInt8) : cutAt l < l.length := by
  unfold cutAt; split
  · exact fin_lt _ _ _
  · exact fin_lt _ _ _
/-- The sign, what stands left, what stands right. -/
def cut (l : List UInt8) : Int × List UInt8 × List UInt8 :=
  if 0 < cutAt l then (((l.getD (cutAt l).toNat 0).toNat : Int), l.take (cutAt l).toNat, l.drop ((cutAt l).toNat + 1))
  else if 1 < l.length ∧ ((l.getD 0 0).toNat : Int) = 45 then (126, [], l.drop 1)
  else if 2 < l.length ∧ ((l.getD 0 0).toNat : Int) = 40 then (40, [], (l.drop 1).take (l.length - 2))
  else (0, [], l)

/-- The next spot within the periods: state, digits, open brackets; none: the byte cannot stand there. -/
def daysS (a d o c : Int) : Option (Int × Int × Int) :=
  if digB c && (a == 0 || a == 3) then some (a + 1, 1, o)
  else if digB c && (a == 1 || a == 4) && decide (d < 3) then some (a, d + 1, o)
  else if c == 32 && (a == 1 || a == 4) then some (a + 1, d, o)
  else if c == 32 then some (a, d, o)
  else if c == 45 && (a == 1 || a == 2) then some (3, d, o)
  else if c == 44 && (a == 4 || a == 5) then some (0, d, o)
  else if c == 124 && (a == 4 || a == 5) then some (6, d, o)
  else none
/-- The next spot ahead of a factor or within an operand that is not complete. -/
def factS (a d o c : Int) : Option (Int × Int × Int) :=
  if a == 6 && (c == 32 || c == 45) then some (a, d, o)
  else if a == 6 && c == 40 then some (a, d, o + 1)
  else if a == 6 && digB c then some (7, 1, o)
  else if a == 6 && selB c then some (8, d, o)
  else if a == 6 && oldB c then some (9, d, o)
  else if a == 8 && digB c then some (10, d, o)
  else if a == 9 && digB c then some (11, d, o)
  else none
/-- The next spot behind an operand that is, or may be, complete. -/
def onwS (a d o c : Int) : Option (Int × Int × Int) :=
  if a == 7 && digB c && decide (d < 18) then some (a, d + 1, o)
  else if (a == 10 && digB c) || c == 32 then some (11, d, o)
  else if opB c || (c == 59 && o == 0) then some (6, d, o)
  else if c == 41 && decide (0 < o) then some (11, d, o - 1)
  else none
def stepS (a d o c : Int) : Option (Int × Int × Int) :=
  if a < 6 then daysS a d o c else if a == 6 || a == 8 || a == 9 then factS a d o c else onwS a d o c
/-- The place of the first byte that cannot stand there, or the end; -1: a report by its form. -/
def plc (a d o i : Int) : List UInt8 → Int
  | [] => if (a == 7 || a == 10 || a == 11) && !decide (0 < o) then -1 else i
  | c :: r => match stepS a d o c.toNat with
    | none => i
    | some (a', d', o') => plc a' d' o' (i + 1) r
/-- A spot as it is met. -/
def okS (a d o : Int) (n : Nat) : Prop := 0 ≤ a ∧ a ≤ 11 ∧ 0 ≤ d ∧ d ≤ 18 ∧ 0 ≤ o ∧ o ≤ n

end Db
namespace Go.Proofs.Ytdchbenfccofpaa
open Go.RowKit Db

theorem hide {p : Prop} (h : p) : Hid p := h
theorem unhide {p : Prop} (h : Hid p) : p := h
set_option maxHeartbeats 400000 in
theorem digit_any (c : Int) (w : World) :
    Calls Try.prog 35 #[.int .u8 c] w fun e w' => e = .returned (.bool (digB c)) ∧ w' = w := by
  by_cases h1 : 48 ≤ c <;> by_cases h2 : c ≤ 57
  all_goals
    go_enter Try.func35, Try.ntmps35
    go_wp2
    go_ret
    exact ⟨by simp [digB] <;> omega, rfl⟩

set_option maxHeartbeats 400000 in
theorem selector_any (c : Int) (w : World) :
    Calls Try.prog 36 #[.int .u8 c] w fun e w' => e = .returned (.bool (selB c)) ∧ w' = w := by
  by_cases h1 : (c == 64) = true <;> by_cases h2 : (c == 33) = true
  all_goals
    go_enter Try.func36, Try.ntmps36
    go_wp2
    go_ret
    exact ⟨by simp_all [selB], rfl⟩

set_option maxHeartbeats 400000 in
theorem older_any (c : Int) (w : World) :
    Calls Try.prog 26 #[.int .u8 c] w fun e w' => e = .returned (.bool (oldB c)) ∧ w' = w := by
  by_cases h1 : (c == 36) = true
  all_goals
    go_enter Try.func26, Try.ntmps26
    go_wp2
    go_ret
    exact ⟨by simp_all [oldB], rfl⟩

set_option maxHeartbeats 400000 in
theorem operation_any (c : Int) (w : World) :
    Calls Try.prog 37 #[.int .u8 c] w fun e w' => e = .returned (.bool (opB c)) ∧ w' = w := by
  by_cases h1 : (c == 43) = true <;> by_cases h2 : (c == 45) = true <;> by_cases h3 : (c == 42) = true
  all_goals
    go_enter Try.func37, Try.ntmps37
    go_wp2
    go_ret
    exact ⟨by simp_all [opB], rfl⟩

end Go.Proofs.Ytdchbenfccofpaa
namespace Go.RowKit

/-- Block b holds just these cells, none of them frozen. -/
def Blk (w : World) (b : Nat) (cs : Array Value) (T : TypeId) : Prop := w.heap[b]? = some (.cells cs T (0, 0))

theorem Blk.cell {w : World} {b : Nat} {cs : Array Value} {T : TypeId} (h : Blk w b cs T) (i : Nat) : w.cell? ⟨b, i, none⟩ = cs[i]? := by
  unfold Blk at h; simp [World.cell?, h]
theorem Blk.frozen {w : World} {b : Nat} {cs : Array Value} {T : TypeId} (h : Blk w b cs T) (i : Nat) : w.frozen? ⟨b, i, none⟩ = false := by
  unfold Blk at h; simp [World.frozen?, h]
theorem Blk.lt {w : World} {b : Nat} {cs : Array Value} {T : TypeId} (h : Blk w b cs T) : b < w.heap.size := (Array.getElem?_eq_some_iff.1 h).1
theorem Blk.set {w : World} {b : Nat} {cs : Array Value} {T : TypeId} (h : Blk w b cs T) (i : Nat) (v : Value) : Blk (w.setCell ⟨b, i, none⟩ v) b (cs.setIfInBounds i v) T := by
  unfold Blk at h ⊢; simp [World.setCell, Array.getElem?_modify, h]
theorem Blk.setOther {w : World} {b : Nat} {cs : Array Value} {T : TypeId} (h : Blk w b cs T) (a : Addr) (v : Value) (hn : b ≠ a.block) : Blk (w.setCell a v) b cs T := by
  unfold Blk at h ⊢; rw [Below.heap_setCell _ _ _ _ hn]; exact h
theorem Blk.alloc {w : World} {b : Nat} {cs : Array Value} {T : TypeId} (h : Blk w b cs T) (o : Obj) : Blk (w.alloc o) b cs T := by
  have hl := h.lt
  unfold Blk at h ⊢; rw [Below.heap_alloc _ _ _ hl]; exact h
theorem Blk.new (w : World) (cs : Array Value) (T : TypeId) : Blk (w.alloc (.cells cs T)) w.heap.size cs T := heap_alloc_new w _
theorem Blk.drewN {w : World} {b : Nat} {cs : Array Value} {T : TypeId} (h : Blk w b cs T) (n : Nat) : Blk (w.drewN n) b cs T := h
theorem Blk.below {w w' : World} {b B : Nat} {cs : Array Value} {T : TypeId} (h : Blk w b cs T) (hb : Below B w w') (hl : b < B) : Blk w' b cs T := by
  unfold Blk at h ⊢; rw [hb.block b hl]; exact h
theorem Blk.kept {w w' : World} {b : Nat} {cs : Array Value} {T : TypeId} (h : Blk w b cs T) (hb : Below w.heap.size w w') : Blk w' b cs T := h.below hb h.lt
theorem Blk.grown {w w' : World} {b : Nat} {cs : Array Value} {T : TypeId} {row : Option Nat} (h : Blk w b cs T) (hg : w.grownBy w' row) (hn : some b ≠ row) : Blk w' b cs T := by
  have hl := h.lt
  unfold Blk at h ⊢; rw [hg.block b hl hn]; exact h

theorem Below.drewN {B : Nat} {a w : World} (h : Below B a w) (n : Nat) : Below B a (w.drewN n) := ⟨h.os, h.tape, h.output, h.size, h.block⟩
theorem Below.undrew {B : Nat} {a w : World} (h : Below B a.drew w) : Below B a w := ⟨h.os, h.tape, h.output, h.size, h.block⟩
theorem Below.undrewN {B n : Nat} {a w : World} (h : Below B (a.drewN n) w) : Below B a w := ⟨h.os, h.tape, h.output, h.size, h.block⟩
/-- Two steps, each of which makes memory. -/
theorem Below.then {a b c : World} (h : Below a.heap.size a b) (k : Below b.heap.size b c) : Below a.heap.size a c := h.trans (k.mono h.size)
theorem Below.then' {B : Nat} {a b c : World} (h : Below B a b) (hB : B ≤ b.heap.size) (k : Below b.heap.size b c) : Below B a c := h.trans (k.mono hB)

/-- What is owned stays owned while new memory is made. -/
theorem ownsRow_below {w w' : World} {base : Nat} {e : TypeId} {size : Nat} {v : Value} {n : Nat} {xs : List Value} (h : w.ownsRow base e size v n xs) (hb : Below w.heap.size w w') : w'.ownsRow base e size v n xs := by
  refine ⟨h.1, ?_⟩
  rcases h.2 with hn | ⟨g, cap, cur, rfl, hbg, hgg, rest⟩
  · exact .inl hn
  · exact .inr ⟨g, cap, cur, rfl, hbg, by rw [hb.block g (Array.getElem?_eq_some_iff.1 hgg).1]; exact hgg, rest⟩

end Go.RowKit
namespace Go.RowKit

structure Frm (B : Nat) (X : Nat → Prop) (w w' : World) : Prop where
  os : w'.os = w.os
  tape : w'.tape = w.tape
  output : w'.output = w.output
  size : w.heap.size ≤ w'.heap.size
  block : ∀ k, k < B → ¬ X k → w'.heap[k]? = w.heap[k]?

section
variable {B : Nat} {X : Nat → Prop} {a b c w w' : World}
theorem Frm.refl (B : Nat) (X : Nat → Prop) (w : World) : Frm B X w w := ⟨rfl, rfl, rfl, Nat.le_refl _, fun _ _ _ => rfl⟩
theorem Frm.trans (h : Frm B X a b) (k : Frm B X b c) : Frm B X a c :=
  ⟨k.os.trans h.os, k.tape.trans h.tape, k.output.trans h.output, Nat.le_trans h.size k.size, fun i hi hx => (k.block i hi hx).trans (h.block i hi hx)⟩
theorem Frm.mono {B' : Nat} {Y : Nat → Prop} (h : Frm B X a b) (hB : B' ≤ B) (hX : ∀ k, k < B' → X k → Y k) : Frm B' Y a b :=
  ⟨h.os, h.tape, h.output, h.size, fun k hk hy => h.block k (Nat.lt_of_lt_of_le hk hB) (fun hx => hy (hX k hk hx))⟩
theorem Below.frm (h : Below B a b) : Frm B X a b := ⟨h.os, h.tape, h.output, h.size, fun k hk _ => h.block k hk⟩
theorem Frm.below (h : Frm B X a b) {B' : Nat} (hB : B' ≤ B) (hX : ∀ k, k < B' → ¬ X k) : Below B' a b := ⟨h.os, h.tape, h.output, h.size, fun k hk => h.block k (Nat.lt_of_lt_of_le hk hB) (hX k hk)⟩
theorem Frm.then (h : Frm B X a b) (hB : B ≤ b.heap.size) (k : Below b.heap.size b c) : Frm B X a c := h.trans (k.mono hB).frm
theorem Frm.drewN (h : Frm B X a b) (n : Nat) : Frm B X a (b.drewN n) := ⟨h.os, h.tape, h.output, h.size, h.block⟩
theorem Frm.drew (h : Frm B X a b) : Frm B X a b.drew := ⟨h.os, h.tape, h.output, h.size, h.block⟩
theorem Frm.undrewN {n : Nat} (h : Frm B X (a.drewN n) b) : Frm B X a b := ⟨h.os, h.tape, h.output, h.size, h.block⟩
theorem Frm.alloc (h : Frm B X a b) (hB : B ≤ b.heap.size) (o : Obj) : Frm B X a (b.alloc o) :=
  h.trans ⟨rfl, rfl, rfl, by simp, fun k hk _ => Below.heap_alloc _ _ _ (by omega)⟩
theorem Frm.setCell (h : Frm B X a b) {p : Addr} (hp : B ≤ p.block ∨ X p.block) (u : Value) : Frm B X a (b.setCell p u) :=
  h.trans ⟨rfl, rfl, rfl, by simp [World.setCell], fun k hk hx => Below.heap_setCell _ _ _ _ (by rintro rfl; rcases hp with hp | hp; omega; exact hx hp)⟩
theorem Frm.grown {row : Option Nat} (h : Frm B X a b) (hg : b.grownBy c row) (hB : B ≤ b.heap.size) (hr : ∀ k, row = some k → B ≤ k ∨ X k) : Frm B X a c :=
  h.trans ⟨hg.os, hg.tape, hg.output, hg.size, fun k hk hx => hg.block k (by omega) (fun e => by rcases hr k e.symm with h | h; omega; exact hx h)⟩
theorem Blk.frm {n : Nat} {cs : Array Value} {T : TypeId} (h : Blk w n cs T) (hf : Frm B X w w') (hn : n < B) (hx : ¬ X n) : Blk w' n cs T := by
  unfold Blk at h ⊢; rw [hf.block n hn hx]; exact h
theorem ownsRow_frm {base : Nat} {e : TypeId} {size : Nat} {v : Value} {n : Nat} {xs : List Value} (h : w.ownsRow base e size v n xs) (hf : Frm B X w w') (hv : ∀ k, v.ownBlock = some k → k < B ∧ ¬ X k) : w'.ownsRow base e size v n xs := by
  refine ⟨h.1, ?_⟩
  rcases h.2 with hn | ⟨g, cap, cur, rfl, hbg, hgg, rest⟩
  · exact .inl hn
  · exact .inr ⟨g, cap, cur, rfl, hbg, by rw [hf.block g (hv g rfl).1 (hv g rfl).2]; exact hgg, rest⟩
theorem ownsRow_base {base base' : Nat} {e : TypeId} {size : Nat} {v : Value} {n : Nat} {xs : List Value} (h : w.ownsRow base e size v n xs) (hv : ∀ k, v.ownBlock = some k → base' ≤ k) : w.ownsRow base' e size v n xs := by
  refine ⟨h.1, ?_⟩
  rcases h.2 with hn | ⟨g, cap, cur, rfl, hbg, hgg, rest⟩
  · exact .inl hn
  · exact .inr ⟨g, cap, cur, rfl, hv g rfl, hgg, rest⟩
/-- The form of a slice that is owned. -/
theorem ownsRow_form {base : Nat} {e : TypeId} {size : Nat} {v : Value} {n : Nat} {xs : List Value} (h : w.ownsRow base e size v n xs) : ∃ ao cap, v = .slice ao n cap := by
  rcases h.2 with ⟨rfl, rfl⟩ | ⟨g, cap, cur, rfl, _⟩
  · exact ⟨none, 0, rfl⟩
  · exact ⟨_, cap, rfl⟩
theorem ownsRow_some {base : Nat} {e : TypeId} {size : Nat} {v : Value} {n : Nat} {xs : List Value} (h : w.ownsRow base e size v n xs) (hn : 0 < n) : ∃ g cap, v = .slice (some ⟨g, 0, none⟩) n cap ∧ base ≤ g ∧ g < w.heap.size := by
  rcases h.2 with ⟨rfl, rfl⟩ | ⟨g, cap, cur, rfl, hb, hg, _⟩
  · omega
  · exact ⟨g, cap, rfl, hb, (Array.getElem?_eq_some_iff.1 hg).1⟩
theorem ownsRow_cell {base : Nat} {e : TypeId} {size g n cap : Nat} {xs : List Value} (h : w.ownsRow base e size (.slice (some ⟨g, 0, none⟩) n cap) n xs) {j : Nat} {u : Value} (hu : xs[j]? = some u) : w.cell? ⟨g, j, none⟩ = some u := by
  have := h.cells (g := g) rfl j u hu
  rw [Addr.add_lit] at this
  simpa using this
theorem ownsRow_frozen {base : Nat} {e : TypeId} {size g n cap : Nat} {xs : List Value} (h : w.ownsRow base e size (.slice (some ⟨g, 0, none⟩) n cap) n xs) (j : Nat) : w.frozen? ⟨g, j, none⟩ = false := by
  rcases h.2 with ⟨h0, _⟩ | ⟨g', cap', cur, h0, _, hg, _⟩
  · cases h0
  · simp only [Value.slice.injEq, Option.some.injEq, Addr.mk.injEq, and_true, true_and] at h0
    obtain ⟨rfl, rfl⟩ := h0
    simp [World.frozen?, hg]
end
end Go.RowKit
namespace Db
theorem plc_step {a d o i : Int} {c : UInt8} {r : List UInt8} {a' d' o' : Int} (h : stepS a d o c.toNat = some (a', d', o')) : plc a d o i (c :: r) = plc a' d' o' (i + 1) r := by
  simp only [plc, h]
theorem plc_stop {a d o i : Int} {c : UInt8} {r : List UInt8} (h : stepS a d o c.toNat = none) : plc a d o i (c :: r) = i := by
  simp only [plc, h]
theorem stepS_ok {a d o c : Int} {n : Nat} {a' d' o' : Int} (h : okS a d o n) (hs : stepS a d o c = some (a', d', o')) : okS a' d' o' (n + 1) := by
  obtain ⟨h1, h2, h3, h4, h5, h6⟩ := h
  have key : ∀ x : Option (Int × Int × Int), x = some (a', d', o') → (∀ p, x = some p → okS p.1 p.2.1 p.2.2 (n + 1)) → okS a' d' o' (n + 1) := fun x hx hp => hp _ hx
  refine key _ hs ?_
  intro p hp
  unfold stepS at hp
  split at hp
  · unfold daysS at hp
    repeat' split at hp
    all_goals first | (cases hp; done) | (obtain rfl := Option.some.inj hp; refine ⟨?_, ?_, ?_, ?_, ?_, ?_⟩ <;> (try simp_all) <;> omega)
  · split at hp
    · unfold factS at hp
      repeat' split at hp
      all_goals first | (cases hp; done) | (obtain rfl := Option.some.inj hp; refine ⟨?_, ?_, ?_, ?_, ?_, ?_⟩ <;> (try simp_all) <;> omega)
    · unfold onwS at hp
      repeat' split at hp
      all_goals first | (cases hp; done) | (obtain rfl := Option.some.inj hp; refine ⟨?_, ?_, ?_, ?_, ?_, ?_⟩ <;> (try simp_all) <;> omega)
end Db
namespace Db

/-- The kind of what comes of an operation: 0 none, 1 money, 2 number. -/
def joinK (o a b : Int) : Int :=
  if a == 0 || b == 0 then 0
  else if o == 43 || o == 45 then (if a == b then a else 0)
  else if o == 42 && a == 1 && b == 1 then 0
  else if o == 42 && (a == 1 || b == 1) then 1
  else if o == 47 && a == 1 && b == 2 then 1
  else if o == 47 && a == 2 && b == 1 then 0
  else 2
theorem joinK_bd (o a b : Int) (ha : 0 ≤ a ∧ a ≤ 2) : 0 ≤ joinK o a b ∧ joinK o a b ≤ 2 := by
  unfold joinK; repeat' split
  all_goals omega

/-- A part: its sign, its number. (48: a number; 126: a - ahead.) -/
abbrev Pt := Int × Int
def opdB (s : Int) : Bool := s == 48 || selB s || oldB s
def leafK (rows : List Int) (p : Pt) : Int := if p.1 == 64 || p.1 == 33 then 1 else if oldB p.1 then rows.getD p.2.toNat 0 else 2
/-- The kinds on the pile. -/
def kEval (rows : List Int) : List Pt → List Int → List Int
  | [], st => st
  | p :: r, st => if opdB p.1 then kEval rows r (leafK rows p :: st) else if p.1 == 126 then kEval rows r st else
    match st with
    | y :: x :: t => kEval rows r (joinK p.1 x y :: t)
    | _ => st

/-- An operand and its part. -/
def Opnd (e : List UInt8) (ps : List Pt) : Prop :=
  (1 ≤ e.length ∧ e.length ≤ 18 ∧ (∀ c ∈ e, digB c.toNat = true) ∧ ps = [(48, val e)]) ∨
  ∃ c ds, e = c :: ds ∧ 1 ≤ ds.length ∧ (∀ x ∈ ds, digB x.toNat = true) ∧ ((selB c.toNat = true ∧ ds.length ≤ 2) ∨ (oldB c.toNat = true ∧ ds.length = 1)) ∧ ps = [((c.toNat : Int), val ds)]

/-- e, cut again and again, comes to these parts. -/
def Wf : Nat → List UInt8 → List Pt → Prop
  | 0, _, _ => False
  | n + 1, e, ps => (cut e = (0, [], e) ∧ Opnd e ps) ∨ ((cut e).1 = 40 ∧ Wf n (cut e).2.2 ps) ∨ ((cut e).1 = 126 ∧ ∃ p, Wf n (cut e).2.2 p ∧ ps = p ++ [(126, 0)]) ∨
      (opB (cut e).1 = true ∧ ∃ p q, Wf n (cut e).2.1 p ∧ Wf n (cut e).2.2 q ∧ ps = p ++ q ++ [((cut e).1, 0)])

/-- Names a row a row that is not ahead of it? -/
def rch (row : Int) : List UInt8 → Bool
  | [] => false
  | c :: r => (oldB c.toNat && (match r with | [] => false | d :: _ => decide (row ≤ (d.toNat : Int) - 48))) || rch row r
/-- Behind $ and < a digit stands. -/
def oldDig : List UInt8 → Prop
  | [] => True
  | c :: r => (oldB c.toNat = true → match r with | [] => True | d :: _ => digB d.toNat = true) ∧ oldDig r

/-- The up to two digits that a text begins with. -/
def dg2 (r : List UInt8) : List UInt8 := (r.take 2).takeWhile fun c => digB c.toNat
/-- Names a text an account of which q is true? -/
def strg (q : Int → Bool) : List UInt8 → Bool
  | [] => false
  | c :: r => (selB c.toNat && q (val (dg2 r))) || strg q r
def selq (q : Int → Bool) (ps : List Pt) : Bool := ps.any fun p => selB p.1 && q p.2
theorem strg_cons_not {q : Int → Bool} {c : UInt8} (r : List UInt8) (h : selB c.toNat = false) : strg q (c :: r) = strg q r := by simp [strg, h]
theorem selq_append (q : Int → Bool) (p r : List Pt) : selq q (p ++ r) = (selq q p || selq q r) := by simp [selq]
theorem selq_op (q : Int → Bool) (o : Int) (h : selB o = false) : selq q [(o, 0)] = false := by simp [selq, h]

theorem opd_op {o : Int} (h : opB o = true) : opdB o = false ∧ (o == 126) = false := by
  simp [opB] at h; rcases h with ((rfl | rfl) | rfl) | rfl <;> exact ⟨rfl, rfl⟩

theorem cut_le (l : List UInt8) : (cut l).2.1.length ≤ l.length ∧ (cut l).2.2.length ≤ l.length := by
  unfold cut
  split
  · exact ⟨by simp; omega, by simp⟩
  · split
    · exact ⟨by simp, by simp⟩
    · split
      · exact ⟨by simp, by simp; omega⟩
      · exact ⟨by simp, by simp⟩
theorem kEval_leaf (rows : List Int) (p : Pt) (q : List Pt) (st : List Int) (h : opdB p.1 = true) : kEval rows ([p] ++ q) st = kEval rows q (leafK rows p :: st) := by
  simp [kEval, h]
theorem kEval_neg (rows : List Int) (p q : List Pt) (k : Int) (h : ∀ q st, kEval rows (p ++ q) st = kEval rows q (k :: st)) (st : List Int) : kEval rows (p ++ [(126, 0)] ++ q) st = kEval rows q (k :: st) := by
  rw [List.append_assoc, h]; rfl
theorem kEval_bin (rows : List Int) (o : Int) (ho : opB o = true) (p q r : List Pt) (a b : Int) (hp : ∀ q st, kEval rows (p ++ q) st = kEval rows q (a :: st)) (hq : ∀ r st, kEval rows (q ++ r) st = kEval rows r (b :: st)) (st : List Int) :
    kEval rows (p ++ q ++ [(o, 0)] ++ r) st = kEval rows r (joinK o a b :: st) := by
  rw [List.append_assoc, List.append_assoc, hp, hq]
  have := opd_op ho
  simp [kEval, this.1, this.2]

end Db
namespace Db

theorem splitGo_plain (c : UInt8) (a : List UInt8) (h : ∀ x ∈ a, x ≠ c) : ∀ acc cur r, splitGo c acc cur (a ++ r) = splitGo c acc (cur ++ a) r := by
  induction a with
  | nil => intro acc cur r; simp
  | cons x t ih =>
    intro acc cur r
    simp only [List.cons_append, splitGo]
    rw [if_neg (h x (by simp)), ih (fun y hy => h y (by simp [hy]))]
    simp
theorem splitGo_acc (c : UInt8) (l : List UInt8) : ∀ acc cur, splitGo c acc cur l = acc ++ splitGo c [] cur l := by
  induction l with
  | nil => intro acc cur; simp [splitGo]
  | cons x t ih =>
    intro acc cur
    simp only [splitGo]
    split
    · rw [ih, ih ([] ++ [cur])]; simp
    · exact ih _ _
theorem split_one (c : UInt8) (a : List UInt8) (h : ∀ x ∈ a, x ≠ c) : split a c = [a] := by
  have := splitGo_plain c a h [] [] []
  simp only [List.append_nil, List.nil_append] at this
  unfold split; rw [this]; rfl
theorem split_cons (c : UInt8) (a r : List UInt8) (h : ∀ x ∈ a, x ≠ c) : split (a ++ c :: r) c = a :: split r c := by
  unfold split
  rw [splitGo_plain c a h]
  simp only [splitGo, if_true, List.nil_append]
  rw [splitGo_acc]; rfl
theorem split_two (c : UInt8) (a b : List UInt8) (ha : ∀ x ∈ a, x ≠ c) (hb : ∀ x ∈ b, x ≠ c) : split (a ++ c :: b) c = [a, b] := by
  rw [split_cons c a b ha, split_one c b hb]
theorem splitGo_le (c : UInt8) (l : List UInt8) : ∀ acc cur (m : Nat), (∀ p ∈ acc, p.length ≤ m) → cur.length + l.length ≤ m → (∀ p ∈ splitGo c acc cur l, p.length ≤ m) := by
  induction l with
  | nil =>
    intro acc cur m ha hc p hp
    simp [splitGo] at hp
    rcases hp with hp | rfl
    · exact ha p hp
    · simpa using hc
  | cons x t ih =>
    intro acc cur m ha hc
    simp only [splitGo]
    simp only [List.length_cons] at hc
    split
    · refine ih _ _ m ?_ (by simp; omega)
      intro p hp
      simp at hp
      rcases hp with hp | rfl
      · exact ha p hp
      · omega
    · exact ih _ _ m ha (by simp; omega)
theorem split_le (l : List UInt8) (c : UInt8) : ∀ p ∈ split l c, p.length ≤ l.length := splitGo_le c l [] [] l.length (by simp) (by simp)
theorem splitGo_len (c : UInt8) (l : List UInt8) : ∀ acc cur, (splitGo c acc cur l).length ≤ acc.length + l.length + 1 := by
  induction l with
  | nil => intro acc cur; simp [splitGo]
  | cons x t ih =>
    intro acc cur
    simp only [splitGo]
    split
    · have := ih (acc ++ [cur]) []
      simp at this ⊢; omega
    · have := ih acc (cur ++ [x])
      simp at this ⊢; omega
theorem split_len (l : List UInt8) (c : UInt8) : (split l c).length ≤ l.length + 1 := by
  have := splitGo_len c l [] []
  unfold split; simpa using this

/-- The digits of a day. -/
def dayS (d : List UInt8) : Prop := 1 ≤ d.length ∧ d.length ≤ 3 ∧ ∀ c ∈ d, digB c.toNat = true
theorem dayS_ne {d : List UInt8} (h : dayS d) (c : UInt8) (hc : digB c.toNat = false) : ∀ x ∈ d, x ≠ c := by
  intro x hx e
  subst e
  rw [h.2.2 x hx] at hc
  cases hc
/-- A report by its form, without its blanks: periods, rows. -/
structure Sht (l : List UInt8) (pd : List (List UInt8 × List UInt8)) (rows : List (List UInt8)) : Prop where
  parts : ∃ x y, split (bare l) 124 = [x, y] ∧ split x 44 = pd.map (fun p => p.1 ++ 45 :: p.2) ∧ split y 59 = rows
  days : ∀ p ∈ pd, dayS p.1 ∧ dayS p.2

end Db
namespace Db

/-- The first period that ends ahead of its beginning; -1: none. -/
def badP (i : Int) : List (Int × Int) → Int
  | [] => -1
  | p :: r => if p.2 < p.1 then i else badP (i + 1) r
/-- Names a row, by its parts, one that is not ahead of it? -/
def nameB (row : Int) (ps : List Pt) : Bool := ps.any fun p => oldB p.1 && decide (row ≤ p.2)
def badN (i : Int) : List (List Pt) → Int
  | [] => -1
  | ps :: r => if nameB i ps then i else badN (i + 1) r
/-- The kind of a row by its parts. -/
def kindP (kinds : List Int) (ps : List Pt) : Int := (kEval kinds ps []).headD 0
def badK (i : Int) (kinds : List Int) : List (List Pt) → Int
  | [] => -1
  | ps :: r => if kindP kinds ps == 0 then i else badK (i + 1) (kinds ++ [kindP kinds ps]) r
/-- The error and the place. -/
def outc (pd : List (Int × Int)) (pss : List (List Pt)) : Int × Int :=
  if 4 < pd.length ∨ 8 < pss.length then (3, 0)
  else if 0 ≤ badP 0 pd then (4, badP 0 pd)
  else if 0 ≤ badN 0 pss then (5, badN 0 pss)
  else if 0 ≤ badK 0 [] pss then (6, badK 0 [] pss)
  else (0, 0)

/-- A row as a text, and its parts. -/
structure RowOk (e : List UInt8) (ps : List Pt) : Prop where
  wf : ∃ n, Wf n e ps
  old : oldDig e
  rch : ∀ row, rch row e = nameB row ps
  sel : ∀ q, strg q e = selq q ps
  len : e.length ≤ 200
  pos : ∀ p ∈ ps, 0 ≤ p.2
/-- A report by its form: its periods' digits, its rows, their parts. -/
structure Form (l : List UInt8) (pd : List (List UInt8 × List UInt8)) (rows : List (List UInt8)) (pss : List (List Pt)) : Prop where
  plc : plc 0 0 0 0 l = -1
  sht : Sht l pd rows
  len : rows.length = pss.length
  row : ∀ (i : Nat) e ps, rows[i]? = some e → pss[i]? = some ps → RowOk e ps
def pdv (pd : List (List UInt8 × List UInt8)) : List (Int × Int) := pd.map fun p => (val p.1, val p.2)

theorem badP_step {i : Nat} {pd : List (Int × Int)} {p : Int × Int} (h : pd[i]? = some p) : badP i (pd.drop i) = if p.2 < p.1 then (i : Int) else badP ((i + 1 : Nat) : Int) (pd.drop (i + 1)) := by
  obtain ⟨hi, rfl⟩ := List.getElem?_eq_some_iff.1 h
  rw [List.drop_eq_getElem_cons hi]; rfl
theorem badN_step {i : Nat} {pss : List (List Pt)} {p : List Pt} (h : pss[i]? = some p) : badN i (pss.drop i) = if nameB i p then (i : Int) else badN ((i + 1 : Nat) : Int) (pss.drop (i + 1)) := by
  obtain ⟨hi, rfl⟩ := List.getElem?_eq_some_iff.1 h
  rw [List.drop_eq_getElem_cons hi]; rfl
theorem badK_step {i : Nat} {pss : List (List Pt)} {p : List Pt} (kinds : List Int) (h : pss[i]? = some p) : badK i kinds (pss.drop i) = if kindP kinds p == 0 then (i : Int) else badK ((i + 1 : Nat) : Int) (kinds ++ [kindP kinds p]) (pss.drop (i + 1)) := by
  obtain ⟨hi, rfl⟩ := List.getElem?_eq_some_iff.1 h
  rw [List.drop_eq_getElem_cons hi]; rfl
/-- No name reaches too far: each row's names are ahead of it. -/
theorem badN_all (pss : List (List Pt)) : ∀ i : Int, 0 ≤ i → badN i pss < 0 → ∀ (j : Nat) ps, pss[j]? = some ps → nameB (i + j) ps = false := by
  induction pss with
  | nil => intro i _ _ j ps h; simp at h
  | cons x t ih =>
    intro i hi hb j ps h
    unfold badN at hb
    split at hb
    · omega
    · rename_i hx
      cases j with
      | zero => simp at h; subst h; simpa using hx
      | succ j =>
        have := ih (i + 1) (by omega) hb j ps (by simpa using h)
        rw [show i + ((j + 1 : Nat) : Int) = i + 1 + j by omega]
        exact this
theorem kindP_of {kinds : List Int} {ps : List Pt} {k : Int} (h : ∀ q st, kEval kinds (ps ++ q) st = kEval kinds q (k :: st)) : kindP kinds ps = k := by
  have := h [] []
  rw [List.append_nil] at this
  unfold kindP; rw [this]; rfl
theorem nameB_lt {row : Int} {ps : List Pt} (h : nameB row ps = false) (hp : ∀ p ∈ ps, 0 ≤ p.2) (n : Nat) (hn : row = n) : ∀ p ∈ ps, oldB p.1 = true → p.2.toNat < n := by
  intro p hp1 ho
  unfold nameB at h
  rw [List.any_eq_false] at h
  have := h p hp1
  simp [ho] at this
  have := hp p hp1
  omega

end Db
namespace Db

def hd : List UInt8 → Int
  | [] => 0
  | c :: _ => c.toNat
def Blanks (x : List UInt8) : Prop := ∀ c ∈ x, c.toNat = 32
theorem bare_blanks {x : List UInt8} (h : Blanks x) : bare x = [] := by
  unfold bare; rw [List.filter_eq_nil_iff]; intro c hc; simp [h c hc]

/-- Alike but for the digits, where these do not count. -/
def simD : Option (Int × Int × Int) → Option (Int × Int × Int) → Prop
  | none, none => True
  | some p, some q => p.1 = q.1 ∧ p.2.2 = q.2.2 ∧ (p.2.1 = q.2.1 ∨ p.1 = 6 ∨ p.1 = 8 ∨ p.1 = 9 ∨ p.1 = 10 ∨ p.1 = 11)
  | _, _ => False

/-- How many digits have been read does not count outside of days and numbers. -/
theorem plc_d (l : List UInt8) : ∀ (a d d' o i : Int), (a = 6 ∨ a = 8 ∨ a = 9 ∨ a = 10 ∨ a = 11) → plc a d o i l = plc a d' o i l := by
  induction l with
  | nil => intro a d d' o i _; rfl
  | cons c r ih =>
    intro a d d' o i ha
    have key : ∀ x y : Option (Int × Int × Int), simD x y →
        (match x with | none => i | some (a', d', o') => plc a' d' o' (i + 1) r) = (match y with | none => i | some (a', d', o') => plc a' d' o' (i + 1) r) := by
      intro x y h
      match x, y, h with
      | none, none, _ => rfl
      | some (a1, e1, o1), some (a2, e2, o2), ⟨h1, h2, h3⟩ =>
        simp only at h1 h2 h3 ⊢
        subst h1 h2
        rcases h3 with h3 | h3
        · rw [h3]
        · exact ih _ _ _ _ _ h3
    show (match stepS a d o c.toNat with | none => i | some (a', d', o') => plc a' d' o' (i + 1) r) = (match stepS a d' o c.toNat with | none => i | some (a', d', o') => plc a' d' o' (i + 1) r)
    apply key
    rcases ha with rfl | rfl | rfl | rfl | rfl
    · unfold stepS factS
      simp only [show ¬ (6 : Int) < 6 by omega, if_false]
      cases h1 : ((c.toNat : Int) == 32 || (c.toNat : Int) == 45) <;> cases h2 : ((c.toNat : Int) == 40) <;> cases h3 : digB c.toNat <;> cases h4 : selB c.toNat <;> cases h5 : oldB c.toNat <;> simp [simD]
    · unfold stepS factS
      simp only [show ¬ (8 : Int) < 6 by omega, if_false]
      cases h3 : digB c.toNat <;> simp [simD]
    · unfold stepS factS
      simp only [show ¬ (9 : Int) < 6 by omega, if_false]
      cases h3 : digB c.toNat <;> simp [simD]
    · unfold stepS onwS
      simp only [show ¬ (10 : Int) < 6 by omega, if_false]
      cases h1 : ((c.toNat : Int) == 32) <;> cases h3 : digB c.toNat <;> cases h4 : opB c.toNat <;> cases h5 : ((c.toNat : Int) == 59 && o == 0) <;> cases h7 : ((c.toNat : Int) == 41 && decide (0 < o)) <;> simp [simD]
    · unfold stepS onwS
      simp only [show ¬ (11 : Int) < 6 by omega, if_false]
      cases h1 : ((c.toNat : Int) == 32) <;> cases h4 : opB c.toNat <;> cases h5 : ((c.toNat : Int) == 59 && o == 0) <;> cases h7 : ((c.toNat : Int) == 41 && decide (0 < o)) <;> simp [simD]

theorem stepS_lt {a d o c : Int} (h : a < 6) : stepS a d o c = daysS a d o c := by unfold stepS; rw [if_pos h]
theorem stepS6 (d o c : Int) : stepS 6 d o c = factS 6 d o c := rfl
theorem stepS8 (d o c : Int) : stepS 8 d o c = factS 8 d o c := rfl
theorem stepS9 (d o c : Int) : stepS 9 d o c = factS 9 d o c := rfl
theorem stepS7 (d o c : Int) : stepS 7 d o c = onwS 7 d o c := rfl
theorem stepS10 (d o c : Int) : stepS 10 d o c = onwS 10 d o c := rfl
theorem stepS11 (d o c : Int) : stepS 11 d o c = onwS 11 d o c := rfl

/-- Blanks change nothing where the spot is between two things. -/
theorem plc_skip (a : Int) (ha : a = 0 ∨ a = 2 ∨ a = 3 ∨ a = 5 ∨ a = 6 ∨ a = 11) (x : List UInt8) (hx : Blanks x) : ∀ d o i r, plc a d o i (x ++ r) = plc a d o (i + x.length) r := by
  induction x with
  | nil => intro d o i r; simp
  | cons c t ih =>
    intro d o i r
    have hc : (c.toNat : Int) = 32 := by have := hx c (by simp); omega
    have hst : stepS a d o c.toNat = some (a, d, o) := by
      rw [hc]
      rcases ha with rfl | rfl | rfl | rfl | rfl | rfl <;> rfl
    rw [List.cons_append, plc_step hst, ih (fun y hy => hx y (by simp [hy]))]
    congr 1
    simp; omega
/-- Behind a complete operand a blank ends it. -/
theorem plc_skip' (a : Int) (ha : a = 7 ∨ a = 10 ∨ a = 11) (x : List UInt8) (hx : Blanks x) (hn : x ≠ []) (d o i : Int) (r : List UInt8) : plc a d o i (x ++ r) = plc 11 0 o (i + x.length) r := by
  match x, hn with
  | c :: t, _ =>
    have hc : (c.toNat : Int) = 32 := by have := hx c (by simp); omega
    have hst : stepS a d o c.toNat = some (11, d, o) := by
      rw [hc]
      rcases ha with rfl | rfl | rfl
      · rw [stepS7]; unfold onwS; simp [digB]
      · rw [stepS10]; unfold onwS; simp
      · rw [stepS11]; unfold onwS; simp
    rw [List.cons_append, plc_step hst, plc_d _ 11 d 0 _ _ (by simp), plc_skip 11 (by simp) t (fun y hy => hx y (by simp [hy]))]
    congr 1
    simp; omega
/-- A number that cannot go on is an operand that is complete. -/
theorem plc_num_end (m o i : Int) (l : List UInt8) (h : 18 ≤ m ∨ digB (hd l) = false) : plc 7 m o i l = plc 11 0 o i l := by
  cases l with
  | nil => rfl
  | cons c r =>
    rw [plc_d (c :: r) 11 0 m _ _ (by simp)]
    have : stepS 7 m o c.toNat = stepS 11 m o c.toNat := by
      rw [stepS7, stepS11]
      unfold onwS
      rcases h with h | h
      · simp [show ¬ m < 18 by omega]
      · simp only [hd] at h
        simp [h]
    simp only [plc, this]
theorem plc_acc_end (d o i : Int) (l : List UInt8) (h : digB (hd l) = false) : plc 10 d o i l = plc 11 0 o i l := by
  cases l with
  | nil => rfl
  | cons c r =>
    rw [plc_d (c :: r) 11 0 d _ _ (by simp)]
    have : stepS 10 d o c.toNat = stepS 11 d o c.toNat := by
      rw [stepS10, stepS11]
      unfold onwS
      simp only [hd] at h
      simp [h]
    simp only [plc, this]
/-- Digits of a number. -/
theorem plc_num (ds : List UInt8) (hd : ∀ c ∈ ds, digB c.toNat = true) : ∀ (m o i : Int) (r : List UInt8), 0 ≤ m → m + ds.length ≤ 18 → plc 7 m o i (ds ++ r) = plc 7 (m + ds.length) o (i + ds.length) r := by
  induction ds with
  | nil => intro m o i r _ _; simp
  | cons c t ih =>
    intro m o i r hm hl
    simp only [List.length_cons] at hl
    have hst : stepS 7 m o c.toNat = some (7, m + 1, o) := by
      rw [stepS7]; unfold onwS; simp [hd c (by simp), show m < 18 by omega]
    rw [List.cons_append, plc_step hst, ih (fun y hy => hd y (by simp [hy])) _ _ _ _ (by omega) (by omega)]
    simp only [List.length_cons]
    congr 1 <;> omega
theorem dig_c {c : Int} (h : digB c = true) : ¬ c = 32 ∧ ¬ c = 45 ∧ ¬ c = 40 := by simp [digB] at h; omega
theorem plc_number (ds : List UInt8) (hdg : ∀ c ∈ ds, digB c.toNat = true) (h1 : 1 ≤ ds.length) (h18 : ds.length ≤ 18) (r : List UInt8) (he : ds.length = 18 ∨ digB (hd r) = false) (d o i : Int) : plc 6 d o i (ds ++ r) = plc 11 0 o (i + ds.length) r := by
  match ds, h1 with
  | c :: t, _ =>
    have hc := hdg c (by simp)
    have hn := dig_c hc
    have hst : stepS 6 d o c.toNat = some (7, 1, o) := by
      rw [stepS6]; unfold factS; simp [hc, hn.1, hn.2.1, hn.2.2]
    simp only [List.length_cons] at h18 he ⊢
    rw [List.cons_append, plc_step hst, plc_num t (fun y hy => hdg y (by simp [hy])) _ _ _ _ (by omega) (by omega), plc_num_end _ _ _ _ (by rcases he with h | h; left; omega; right; exact h)]
    congr 1
    omega

end Db
namespace Db

theorem sel_c {c : Int} (h : selB c = true) : ¬ c = 32 ∧ ¬ c = 45 ∧ ¬ c = 40 ∧ digB c = false := by
  simp [selB] at h; rcases h with (rfl | rfl) | rfl <;> simp [digB]
theorem old_c {c : Int} (h : oldB c = true) : ¬ c = 32 ∧ ¬ c = 45 ∧ ¬ c = 40 ∧ digB c = false ∧ selB c = false := by
  simp [oldB] at h; rcases h with rfl | rfl <;> simp [digB, selB]
theorem op_c {c : Int} (h : opB c = true) : ¬ c = 32 ∧ ¬ c = 40 ∧ ¬ c = 41 ∧ ¬ c = 59 ∧ digB c = false ∧ selB c = false ∧ oldB c = false := by
  simp [opB] at h; rcases h with ((rfl | rfl) | rfl) | rfl <;> simp [digB, selB, oldB]
theorem plc_sel1 {c : UInt8} (h : selB c.toNat = true) (d o i : Int) (r : List UInt8) : plc 6 d o i (c :: r) = plc 8 d o (i + 1) r := by
  have hn := sel_c h
  exact plc_step (by rw [stepS6]; unfold factS; simp [h, hn.1, hn.2.1, hn.2.2.1, hn.2.2.2])
theorem plc_old1 {c : UInt8} (h : oldB c.toNat = true) (d o i : Int) (r : List UInt8) : plc 6 d o i (c :: r) = plc 9 d o (i + 1) r := by
  have hn := old_c h
  exact plc_step (by rw [stepS6]; unfold factS; simp [h, hn.1, hn.2.1, hn.2.2.1, hn.2.2.2.1, hn.2.2.2.2])
theorem plc_sel (ds : List UInt8) (hdg : ∀ c ∈ ds, digB c.toNat = true) (h1 : 1 ≤ ds.length) (h2 : ds.length ≤ 2) (r : List UInt8) (he : ds.length = 2 ∨ digB (hd r) = false) (d o i : Int) : plc 8 d o i (ds ++ r) = plc 11 0 o (i + ds.length) r := by
  have s8 : ∀ x : UInt8, digB x.toNat = true → ∀ d, stepS 8 d o x.toNat = some (10, d, o) := fun x hx d => by rw [stepS8]; unfold factS; simp [hx]
  have s10 : ∀ x : UInt8, digB x.toNat = true → ∀ d, stepS 10 d o x.toNat = some (11, d, o) := fun x hx d => by rw [stepS10]; unfold onwS; simp [hx]
  match ds, h1, h2 with
  | [x], _, _ =>
    rw [List.cons_append, plc_step (s8 x (hdg x (by simp)) d)]
    simp only [List.length_cons, List.length_nil, List.nil_append] at he ⊢
    rw [plc_acc_end _ _ _ _ (by rcases he with he | he; omega; exact he)]
    rfl
  | [x, y], _, _ =>
    rw [List.cons_append, plc_step (s8 x (hdg x (by simp)) d), List.cons_append, plc_step (s10 y (hdg y (by simp)) d), plc_d _ 11 d 0 _ _ (by simp)]
    simp only [List.length_cons, List.length_nil, List.nil_append]
    congr 1
    omega
  | _ :: _ :: _ :: _, _, h2 => simp at h2
theorem plc_old (x : UInt8) (hx : digB x.toNat = true) (r : List UInt8) (d o i : Int) : plc 9 d o i (x :: r) = plc 11 0 o (i + 1) r := by
  rw [plc_step (show stepS 9 d o x.toNat = some (11, d, o) by rw [stepS9]; unfold factS; simp [hx]), plc_d _ 11 d 0 _ _ (by simp)]
theorem plc_fail8 (l : List UInt8) (h : digB (hd l) = false) (d o i : Int) : plc 8 d o i l = i := by
  cases l with
  | nil => rfl
  | cons c r => exact plc_stop (by rw [stepS8]; unfold factS; simp only [hd] at h; simp [h])
theorem plc_fail9 (l : List UInt8) (h : digB (hd l) = false) (d o i : Int) : plc 9 d o i l = i := by
  cases l with
  | nil => rfl
  | cons c r => exact plc_stop (by rw [stepS9]; unfold factS; simp only [hd] at h; simp [h])
theorem plc_fail6 (l : List UInt8) (h1 : ¬ hd l = 32) (h2 : ¬ hd l = 45) (h3 : ¬ hd l = 40) (h4 : digB (hd l) = false) (h5 : selB (hd l) = false) (h6 : oldB (hd l) = false) (d o i : Int) : plc 6 d o i l = i := by
  cases l with
  | nil => rfl
  | cons c r => exact plc_stop (by rw [stepS6]; unfold factS; simp only [hd] at *; simp [*])
theorem plc_neg {c : UInt8} (h : (c.toNat : Int) = 45) (d o i : Int) (r : List UInt8) : plc 6 d o i (c :: r) = plc 6 d o (i + 1) r :=
  plc_step (by rw [stepS6]; unfold factS; simp [h])
theorem plc_par {c : UInt8} (h : (c.toNat : Int) = 40) (d o i : Int) (r : List UInt8) : plc 6 d o i (c :: r) = plc 6 d (o + 1) (i + 1) r :=
  plc_step (by rw [stepS6]; unfold factS; simp [h])
theorem plc_op {c : UInt8} (h : opB c.toNat = true) (d o i : Int) (r : List UInt8) : plc 11 d o i (c :: r) = plc 6 d o (i + 1) r := by
  have hn := op_c h
  exact plc_step (by rw [stepS11]; unfold onwS; simp [h, hn.1])
theorem plc_shut {c : UInt8} (h : (c.toNat : Int) = 41) (d o i : Int) (ho : 0 ≤ o) (r : List UInt8) : plc 11 d (o + 1) i (c :: r) = plc 11 d o (i + 1) r := by
  have e : stepS 11 d (o + 1) c.toNat = some (11, d, o) := by
    rw [stepS11, h]; unfold onwS; simp [opB, show 0 < o + 1 by omega]
  exact plc_step e
theorem plc_row {c : UInt8} (h : (c.toNat : Int) = 59) (d i : Int) (r : List UInt8) : plc 11 d 0 i (c :: r) = plc 6 d 0 (i + 1) r :=
  plc_step (by rw [stepS11, h]; unfold onwS; simp [opB])
/-- Within brackets: nothing but ) or an operation goes on. -/
theorem plc_fail11 (l : List UInt8) (h1 : ¬ hd l = 32) (h2 : opB (hd l) = false) (h3 : ¬ hd l = 41) (d o i : Int) (ho : 0 ≤ o) : plc 11 d (o + 1) i l = i := by
  cases l with
  | nil => simp [plc]; omega
  | cons c r =>
    refine plc_stop ?_
    rw [stepS11]; unfold onwS; simp only [hd] at *
    simp [h1, h2, h3, show ¬ o + 1 = 0 by omega]
/-- Outside of them: nothing but ; or an operation goes on. -/
theorem plc_fail0 (l : List UInt8) (hn : l ≠ []) (h1 : ¬ hd l = 32) (h2 : opB (hd l) = false) (h3 : ¬ hd l = 59) (d i : Int) : plc 11 d 0 i l = i := by
  cases l with
  | nil => exact absurd rfl hn
  | cons c r =>
    refine plc_stop ?_
    rw [stepS11]; unfold onwS; simp only [hd] at *
    simp [h1, h2, h3]

end Db
namespace Db

/-- A sign behind which nothing is an operation between two operands. -/
def stt (p : Int) : Prop := digB p = false ∧ ¬ p = 41
def lst (e : List UInt8) : Int := match e.getLast? with | some c => c.toNat | none => -1
def upd (a b : Int) (e : List UInt8) (at_ i : Int) : Int := if fin e a b < 0 then at_ else i + fin e a b

structure ExpS (e : List UInt8) (ps : List Pt) : Prop where
  wf : ∃ n, Wf n e ps
  pos : 0 < e.length
  ends : digB (lst e) = true ∨ lst e = 41
  scan : ∀ (a b p k at_ i : Int) (r : List UInt8), 0 ≤ k → stt p → finGo a b p k at_ i (e ++ r) = finGo a b (lst e) k (if k = 0 then upd a b e at_ i else at_) (i + e.length) r
  chars : ∀ c ∈ e, ¬ c.toNat = 32 ∧ ¬ c.toNat = 44 ∧ ¬ c.toNat = 59 ∧ ¬ c.toNat = 124
  old : ∀ r, oldDig r → oldDig (e ++ r)
  rch : ∀ row r, rch row (e ++ r) = (nameB row ps || rch row r)
  sel : ∀ (q : Int → Bool) r, digB (hd r) = false → strg q (e ++ r) = (selq q ps || strg q r)
  num : ∀ p ∈ ps, 0 ≤ p.2

theorem Wf_mono {n : Nat} : ∀ {e : List UInt8} {ps : List Pt}, Wf n e ps → Wf (n + 1) e ps := by
  induction n with
  | zero => intro e ps h; exact absurd h (by simp [Wf])
  | succ n ih =>
    intro e ps h
    rcases h with h | ⟨h1, h2⟩ | ⟨h1, p, h2, h3⟩ | ⟨h1, p, q, h2, h3, h4⟩
    · exact .inl h
    · exact .inr (.inl ⟨h1, ih h2⟩)
    · exact .inr (.inr (.inl ⟨h1, p, ih h2, h3⟩))
    · exact .inr (.inr (.inr ⟨h1, p, q, ih h2, ih h3, h4⟩))
theorem Wf_add {n : Nat} (m : Nat) {e : List UInt8} {ps : List Pt} (h : Wf n e ps) : Wf (n + m) e ps := by
  induction m with
  | zero => exact h
  | succ m ih => exact Wf_mono ih
theorem Wf_le {n m : Nat} (hm : n ≤ m) {e : List UInt8} {ps : List Pt} (h : Wf n e ps) : Wf m e ps := by
  obtain ⟨k, rfl⟩ := Nat.le.dest hm
  exact Wf_add k h

theorem finGo_ge (a b : Int) (l : List UInt8) : ∀ p k at_ i : Int, 0 ≤ i → -1 ≤ at_ → -1 ≤ finGo a b p k at_ i l := by
  induction l with
  | nil => intro p k at_ i _ h; exact h
  | cons c r ih =>
    intro p k at_ i hi h
    exact ih _ _ _ _ (by omega) (by unfold hit; split <;> omega)
theorem fin_ge (l : List UInt8) (a b : Int) : -1 ≤ fin l a b := finGo_ge a b l _ _ _ _ (by omega) (by omega)
theorem stt_start : stt (-1) := ⟨by decide, by decide⟩
/-- The last operation of a whole text, by its scan. -/
theorem ExpS.fin_of {e : List UInt8} {ps : List Pt} (h : ExpS e ps) (a b p at_ i : Int) (hp : stt p) : finGo a b p 0 at_ i e = upd a b e at_ i := by
  have := h.scan a b p 0 at_ i [] (by omega) hp
  simpa [finGo] using this

theorem lst_append (x : List UInt8) (c : UInt8) (y : List UInt8) (hy : 0 < y.length) : lst (x ++ c :: y) = lst y := by
  unfold lst
  rw [List.getLast?_append, List.getLast?_cons]
  cases h : y.getLast? with
  | none => simp at h; subst h; simp at hy
  | some z => simp
theorem lst_cons (c : UInt8) (y : List UInt8) (hy : 0 < y.length) : lst (c :: y) = lst y := lst_append [] c y hy
theorem lst_snoc (x : List UInt8) (c : UInt8) : lst (x ++ [c]) = c.toNat := by simp [lst]

theorem fin_join {l r : List UInt8} {p q : List Pt} (hl : ExpS l p) (hr : ExpS r q) (o : UInt8) (ho : opB o.toNat = true) (a b : Int) :
    fin (l ++ o :: r) a b = if 0 ≤ fin r a b then (l.length : Int) + 1 + fin r a b else if ((o.toNat : Int) == a || (o.toNat : Int) == b) then (l.length : Int) else fin l a b := by
  have hc := op_c ho
  have hdep : dep 0 (o.toNat : Int) = 0 := by simp [dep, hc.2.1, hc.2.2.1]
  have hbin : binB (lst l) (o.toNat : Int) = true := by
    unfold binB; rw [ho]
    rcases hl.ends with h | h <;> simp [h]
  unfold fin
  rw [hl.scan a b (-1) 0 (-1) 0 (o :: r) (by omega) stt_start]
  simp only [if_true, finGo, hdep]
  rw [hr.fin_of a b _ _ _ ⟨hc.2.2.2.2.1, hc.2.2.1⟩]
  have g := fin_ge r a b
  have g2 := fin_ge l a b
  unfold upd hit
  rw [hbin]
  have e1 : fin l a b = finGo a b (-1) 0 (-1) 0 l := rfl
  have e2 : fin r a b = finGo a b (-1) 0 (-1) 0 r := rfl
  rw [← e1, ← e2]
  by_cases h1 : fin r a b < 0
  · rw [if_pos h1, if_neg (show ¬ 0 ≤ fin r a b by omega)]
    cases h2 : ((o.toNat : Int) == a || (o.toNat : Int) == b)
    · simp only [Bool.and_false, Bool.false_eq_true, if_false]
      split <;> omega
    · simp
  · rw [if_neg h1, if_pos (show 0 ≤ fin r a b by omega)]
    omega

/-- Two expressions with an operation between them: all but how they are cut. -/
theorem scan_join {l r : List UInt8} {p q : List Pt} (hl : ExpS l p) (hr : ExpS r q) (o : UInt8) (ho : opB o.toNat = true)
    (a b p0 k at_ i : Int) (rest : List UInt8) (hk : 0 ≤ k) (hp : stt p0) :
    finGo a b p0 k at_ i ((l ++ o :: r) ++ rest) = finGo a b (lst (l ++ o :: r)) k (if k = 0 then upd a b (l ++ o :: r) at_ i else at_) (i + (l ++ o :: r).length) rest := by
  have hc := op_c ho
  have hdep : dep k (o.toNat : Int) = k := by simp [dep, hc.2.1, hc.2.2.1]
  have hbin : binB (lst l) (o.toNat : Int) = true := by
    unfold binB; rw [ho]
    rcases hl.ends with h | h <;> simp [h]
  have hj := fin_join hl hr o ho a b
  have g := fin_ge r a b
  have g2 := fin_ge l a b
  rw [List.append_assoc, hl.scan a b p0 k at_ i _ hk hp, List.cons_append]
  simp only [finGo, hdep]
  rw [hr.scan a b _ k _ _ rest hk ⟨hc.2.2.2.2.1, hc.2.2.1⟩, lst_append l o r hr.pos]
  have hlen : i + (l.length : Int) + 1 + (r.length : Int) = i + ((l ++ o :: r).length : Int) := by simp; omega
  rw [hlen]
  congr 1
  by_cases h0 : k = 0
  · subst h0
    simp only [if_true]
    unfold hit
    rw [hbin]
    unfold upd
    rw [hj]
    by_cases h1 : fin r a b < 0
    · rw [if_pos h1, if_neg (show ¬ 0 ≤ fin r a b by omega)]
      cases h2 : ((o.toNat : Int) == a || (o.toNat : Int) == b)
      · simp
      · simp; omega
    · rw [if_neg h1, if_pos (show 0 ≤ fin r a b by omega), if_neg (by omega)]
      omega
  · have hk0 : (k == 0) = false := by simpa using h0
    simp [h0, hit, hk0]

end Db
namespace Db

def TrmS (e : List UInt8) (ps : List Pt) : Prop := ExpS e ps ∧ fin e 43 45 < 0
def FacS (e : List UInt8) (ps : List Pt) : Prop := ExpS e ps ∧ fin e 43 45 < 0 ∧ fin e 42 47 < 0
theorem FacS.trm {e : List UInt8} {ps : List Pt} (h : FacS e ps) : TrmS e ps := ⟨h.1, h.2.1⟩

theorem cut_join (l : List UInt8) (o : UInt8) (r : List UInt8) (hl : 0 < l.length) (h : cutAt (l ++ o :: r) = (l.length : Int)) : cut (l ++ o :: r) = ((o.toNat : Int), l, r) := by
  unfold cut
  rw [if_pos (by rw [h]; omega), h]
  simp only [Int.toNat_natCast]
  refine Prod.ext ?_ (Prod.ext ?_ ?_)
  · simp [List.getD]
  · simp
  · simp [List.drop_append]
theorem nameB_append (row : Int) (p q : List Pt) : nameB row (p ++ q) = (nameB row p || nameB row q) := by simp [nameB]
theorem nameB_op (row : Int) (o : Int) (h : oldB o = false) : nameB row [(o, 0)] = false := by simp [nameB, h]

theorem rch_cons_not {row : Int} {c : UInt8} (r : List UInt8) (h : oldB c.toNat = false) : rch row (c :: r) = rch row r := by
  simp [rch, h]
theorem oldDig_cons_not {c : UInt8} {r : List UInt8} (h : oldB c.toNat = false) (hr : oldDig r) : oldDig (c :: r) := ⟨fun hc => (by rw [h] at hc; cases hc), hr⟩

/-- An operation between two. -/
theorem join_shape {l r : List UInt8} {p q : List Pt} (hl : ExpS l p) (hr : ExpS r q) (o : UInt8) (ho : opB o.toNat = true) (hcut : cutAt (l ++ o :: r) = (l.length : Int)) :
    ExpS (l ++ o :: r) (p ++ q ++ [((o.toNat : Int), 0)]) := by
  have hc := op_c ho
  obtain ⟨n1, h1⟩ := hl.wf
  obtain ⟨n2, h2⟩ := hr.wf
  refine ⟨⟨n1 + n2 + 1, ?_⟩, ?_, ?_, ?_, ?_, ?_, ?_, ?_, ?_⟩
  · have e := cut_join l o r hl.pos hcut
    refine .inr (.inr (.inr ⟨by rw [e]; exact ho, p, q, ?_, ?_, by rw [e]⟩))
    · rw [e]; exact Wf_le (by omega) h1
    · rw [e]; exact Wf_le (by omega) h2
  · simp; omega
  · rw [lst_append l o r hr.pos]; exact hr.ends
  · intro a b p0 k at_ i rest hk hp
    exact scan_join hl hr o ho a b p0 k at_ i rest hk hp
  · intro c hcm
    rw [List.mem_append, List.mem_cons] at hcm
    rcases hcm with h | rfl | h
    · exact hl.chars c h
    · simp [opB] at ho; omega
    · exact hr.chars c h
  · intro rest hrest
    rw [List.append_assoc, List.cons_append]
    exact hl.old _ (oldDig_cons_not hc.2.2.2.2.2.2 (hr.old _ hrest))
  · intro row rest
    rw [List.append_assoc, List.cons_append, hl.rch, rch_cons_not _ hc.2.2.2.2.2.2, hr.rch, nameB_append, nameB_append, nameB_op _ _ hc.2.2.2.2.2.2]
    simp [Bool.or_assoc]
  · intro q rest hrest
    rw [List.append_assoc, List.cons_append, hl.sel _ _ (by simp only [hd]; exact hc.2.2.2.2.1), strg_cons_not _ hc.2.2.2.2.2.1, hr.sel _ _ hrest, selq_append, selq_append, selq_op _ _ hc.2.2.2.2.2.1]
    simp [Bool.or_assoc]
  · intro x hx
    simp at hx
    rcases hx with h | h | rfl
    · exact hl.num x h
    · exact hr.num x h
    · simp
theorem ExpS_add {l r : List UInt8} {p q : List Pt} (hl : ExpS l p) (hr : TrmS r q) (o : UInt8) (ho : (o.toNat : Int) = 43 ∨ (o.toNat : Int) = 45) : ExpS (l ++ o :: r) (p ++ q ++ [((o.toNat : Int), 0)]) := by
  have hop : opB o.toNat = true := by rcases ho with h | h <;> rw [h] <;> rfl
  refine join_shape hl hr.1 o hop ?_
  have hj := fin_join hl hr.1 o hop 43 45
  rw [if_neg (by have := hr.2; omega), if_pos (by rcases ho with h | h <;> rw [h] <;> rfl)] at hj
  unfold cutAt
  rw [hj, if_neg (by omega)]
theorem TrmS_mul {l r : List UInt8} {p q : List Pt} (hl : TrmS l p) (hr : FacS r q) (o : UInt8) (ho : (o.toNat : Int) = 42 ∨ (o.toNat : Int) = 47) : TrmS (l ++ o :: r) (p ++ q ++ [((o.toNat : Int), 0)]) := by
  have hop : opB o.toNat = true := by rcases ho with h | h <;> rw [h] <;> rfl
  have hj1 := fin_join hl.1 hr.1 o hop 43 45
  rw [if_neg (by have := hr.2.1; omega), if_neg (by rcases ho with h | h <;> rw [h] <;> decide)] at hj1
  have hj2 := fin_join hl.1 hr.1 o hop 42 47
  rw [if_neg (by have := hr.2.2; omega), if_pos (by rcases ho with h | h <;> rw [h] <;> rfl)] at hj2
  refine ⟨join_shape hl.1 hr.1 o hop ?_, by rw [hj1]; exact hl.2⟩
  unfold cutAt
  rw [hj1, hj2, if_pos hl.2]

/-- A - ahead. -/
theorem neg_fin {e : List UInt8} {ps : List Pt} (he : ExpS e ps) (c : UInt8) (hc : (c.toNat : Int) = 45) (a b p k at_ i : Int) (r : List UInt8) (hk : 0 ≤ k) (hp : stt p) :
    finGo a b p k at_ i (c :: e ++ r) = finGo a b (lst e) k (if k = 0 then upd a b e at_ (i + 1) else at_) (i + 1 + e.length) r := by
  have h1 : dep k (c.toNat : Int) = k := by rw [hc]; simp [dep]
  have h2 : hit a b p k at_ i (c.toNat : Int) = at_ := by
    unfold hit binB
    rw [hp.1]
    have : (p == 41) = false := by simpa using hp.2
    simp [this]
  rw [List.cons_append]
  simp only [finGo, h1, h2]
  rw [he.scan a b _ k at_ (i + 1) r hk (by rw [hc]; exact ⟨rfl, by decide⟩)]
theorem neg_fin0 {e : List UInt8} {ps : List Pt} (he : ExpS e ps) (c : UInt8) (hc : (c.toNat : Int) = 45) (a b : Int) : fin (c :: e) a b = if fin e a b < 0 then -1 else 1 + fin e a b := by
  have := neg_fin he c hc a b (-1) 0 (-1) 0 [] (by omega) stt_start
  have e2 : finGo a b (-1) 0 (-1) 0 (c :: e ++ []) = fin (c :: e) a b := by rw [List.append_nil]; rfl
  rw [← e2, this, if_pos rfl]
  show upd a b e (-1) (0 + 1) = _
  unfold upd
  split <;> omega
theorem FacS_neg {e : List UInt8} {ps : List Pt} (h : FacS e ps) (c : UInt8) (hc : (c.toNat : Int) = 45) : FacS (c :: e) (ps ++ [(126, 0)]) := by
  have he := h.1
  have f1 := neg_fin0 he c hc 43 45
  have f2 := neg_fin0 he c hc 42 47
  rw [if_pos h.2.1] at f1
  rw [if_pos h.2.2] at f2
  obtain ⟨n, hn⟩ := he.wf
  have hpos := he.pos
  have hold : oldB c.toNat = false := by rw [hc]; rfl
  have hcut : cut (c :: e) = (126, [], e) := by
    unfold cut
    have hca : cutAt (c :: e) = -1 := by unfold cutAt; rw [f1, if_pos (by omega), f2]
    rw [hca, if_neg (by omega), if_pos ⟨by simp; omega, by simp [hc]⟩]
    rfl
  refine ⟨⟨⟨n + 1, .inr (.inr (.inl ⟨by rw [hcut], ps, by rw [hcut]; exact hn, rfl⟩))⟩, by simp, ?_, ?_, ?_, ?_, ?_, ?_, ?_⟩, by rw [f1]; omega, by rw [f2]; omega⟩
  · rw [lst_cons c e hpos]; exact he.ends
  · intro a b p k at_ i r hk hp
    rw [neg_fin he c hc a b p k at_ i r hk hp, lst_cons c e hpos]
    have hl : i + 1 + (e.length : Int) = i + ((c :: e).length : Int) := by simp; omega
    rw [hl]
    congr 1
    by_cases h0 : k = 0
    · rw [if_pos h0, if_pos h0]
      unfold upd
      rw [neg_fin0 he c hc a b]
      have g := fin_ge e a b
      by_cases h1 : fin e a b < 0
      · rw [if_pos h1, if_pos h1, if_pos (by omega)]
      · rw [if_neg h1, if_neg h1, if_neg (by omega)]; omega
    · rw [if_neg h0, if_neg h0]
  · intro x hx
    rw [List.mem_cons] at hx
    rcases hx with rfl | hx
    · omega
    · exact he.chars x hx
  · intro r hr
    rw [List.cons_append]
    exact oldDig_cons_not hold (he.old r hr)
  · intro row r
    rw [List.cons_append, rch_cons_not _ hold, he.rch, nameB_append]
    simp [nameB, oldB]
  · intro q r hr
    rw [List.cons_append, strg_cons_not _ (by rw [hc]; rfl), he.sel _ _ hr, selq_append]
    simp [selq, selB]
  · intro x hx
    simp at hx
    rcases hx with hx | rfl
    · exact he.num x hx
    · simp

/-- Brackets. -/
theorem par_fin {e : List UInt8} {ps : List Pt} (he : ExpS e ps) (c d : UInt8) (hc : (c.toNat : Int) = 40) (hd : (d.toNat : Int) = 41) (a b p k at_ i : Int) (r : List UInt8) (hk : 0 ≤ k) :
    finGo a b p k at_ i ((c :: (e ++ [d])) ++ r) = finGo a b 41 k at_ (i + ((c :: (e ++ [d])).length : Int)) r := by
  have h1 : dep k (c.toNat : Int) = k + 1 := by rw [hc]; simp [dep]
  have h2 : ∀ p q j, hit a b p q at_ j (c.toNat : Int) = at_ := by intro p q j; rw [hc]; simp [hit, binB, opB]
  have h3 : dep (k + 1) (d.toNat : Int) = k := by rw [hd]; simp [dep]
  have h4 : ∀ p q j, hit a b p q at_ j (d.toNat : Int) = at_ := by intro p q j; rw [hd]; simp [hit, binB, opB]
  rw [List.cons_append, List.append_assoc]
  simp only [finGo, h1, h2]
  rw [he.scan a b _ (k + 1) at_ (i + 1) _ (by omega) (by rw [hc]; exact ⟨rfl, by decide⟩), if_neg (by omega)]
  rw [List.cons_append, List.nil_append]
  simp only [finGo, h3, h4]
  rw [hd]
  congr 1
  simp; omega
theorem FacS_par {e : List UInt8} {ps : List Pt} (he : ExpS e ps) (c d : UInt8) (hc : (c.toNat : Int) = 40) (hd : (d.toNat : Int) = 41) : FacS (c :: (e ++ [d])) ps := by
  have f : ∀ a b, fin (c :: (e ++ [d])) a b = -1 := by
    intro a b
    have := par_fin he c d hc hd a b (-1) 0 (-1) 0 [] (by omega)
    simp only [List.append_nil, finGo] at this
    exact this
  obtain ⟨n, hn⟩ := he.wf
  have hpos := he.pos
  have hold : oldB c.toNat = false := by rw [hc]; rfl
  have hold2 : oldB d.toNat = false := by rw [hd]; rfl
  have hcut : cut (c :: (e ++ [d])) = (40, [], e) := by
    unfold cut
    have hca : cutAt (c :: (e ++ [d])) = -1 := by unfold cutAt; rw [f, if_pos (by omega), f]
    rw [hca, if_neg (by omega), if_neg (by rintro ⟨_, h⟩; simp at h; omega), if_pos ⟨by simp; omega, by simp [hc]⟩]
    simp
  have hlst : lst (c :: (e ++ [d])) = 41 := by
    rw [← hd]; exact lst_snoc (c :: e) d
  refine ⟨⟨⟨n + 1, .inr (.inl ⟨by rw [hcut], by rw [hcut]; exact hn⟩)⟩, by simp, .inr hlst, ?_, ?_, ?_, ?_, ?_, he.num⟩, by rw [f]; omega, by rw [f]; omega⟩
  · intro a b p k at_ i r hk hp
    rw [par_fin he c d hc hd a b p k at_ i r hk, hlst]
    congr 1
    unfold upd
    rw [f, if_pos (show (-1 : Int) < 0 by omega)]
    split <;> rfl
  · intro x hx
    rw [List.mem_cons, List.mem_append, List.mem_singleton] at hx
    rcases hx with rfl | hx | rfl
    · omega
    · exact he.chars x hx
    · omega
  · intro r hr
    rw [List.cons_append, List.append_assoc]
    exact oldDig_cons_not hold (he.old _ (oldDig_cons_not hold2 hr))
  · intro row r
    rw [List.cons_append, List.append_assoc, rch_cons_not _ hold, he.rch, List.cons_append, rch_cons_not _ hold2]
    rfl
  · intro q r hr
    rw [List.cons_append, List.append_assoc, strg_cons_not _ (by rw [hc]; rfl), he.sel _ _ (by show digB (d.toNat : Int) = false; rw [hd]; rfl), List.cons_append, strg_cons_not _ (by rw [hd]; rfl)]
    rfl

end Db
namespace Db

theorem valGo_pos (l : List UInt8) (h : ∀ c ∈ l, digB c.toNat = true) : ∀ n : Int, 0 ≤ n → 0 ≤ valGo n l := by
  induction l with
  | nil => intro n hn; exact hn
  | cons c r ih =>
    intro n hn
    have := h c (by simp)
    simp [digB] at this
    exact ih (fun x hx => h x (by simp [hx])) _ (by omega)
theorem val_pos (l : List UInt8) (h : ∀ c ∈ l, digB c.toNat = true) : 0 ≤ val l := valGo_pos l h 0 (by omega)

/-- A text without operations and brackets. -/
def Flat (e : List UInt8) : Prop := ∀ c ∈ e, opB c.toNat = false ∧ ¬ (c.toNat : Int) = 40 ∧ ¬ (c.toNat : Int) = 41
theorem flat_fin (a b : Int) (e : List UInt8) (h : Flat e) : ∀ (p k at_ i : Int) (r : List UInt8), finGo a b p k at_ i (e ++ r) = finGo a b (if e = [] then p else lst e) k at_ (i + e.length) r := by
  induction e with
  | nil => intro p k at_ i r; simp
  | cons c t ih =>
    intro p k at_ i r
    have hc := h c (by simp)
    have h1 : dep k (c.toNat : Int) = k := by simp [dep, hc.2.1, hc.2.2]
    have h2 : hit a b p k at_ i (c.toNat : Int) = at_ := by simp [hit, binB, hc.1]
    rw [List.cons_append]
    simp only [finGo, h1, h2]
    rw [ih (fun x hx => h x (by simp [hx]))]
    have hl : i + 1 + (t.length : Int) = i + ((c :: t).length : Int) := by simp; omega
    rw [hl]
    congr 1
    cases t with
    | nil => simp [lst]
    | cons x y => simp [lst]
theorem dig_flat {c : Int} (h : digB c = true) : opB c = false ∧ ¬ c = 40 ∧ ¬ c = 41 := by simp [digB] at h; simp [opB]; omega
theorem sel_flat {c : Int} (h : selB c = true) : opB c = false ∧ ¬ c = 40 ∧ ¬ c = 41 := by simp [selB] at h; rcases h with (rfl | rfl) | rfl <;> simp [opB]
theorem old_flat {c : Int} (h : oldB c = true) : opB c = false ∧ ¬ c = 40 ∧ ¬ c = 41 := by simp [oldB] at h; rcases h with rfl | rfl <;> simp [opB]
theorem dig_old {c : Int} (h : digB c = true) : oldB c = false := by simp [digB] at h; simp [oldB]; omega
theorem sel_old {c : Int} (h : selB c = true) : oldB c = false := by simp [selB] at h; rcases h with (rfl | rfl) | rfl <;> simp [oldB]
theorem digs_old (ds : List UInt8) (h : ∀ c ∈ ds, digB c.toNat = true) (r : List UInt8) (hr : oldDig r) : oldDig (ds ++ r) := by
  induction ds with
  | nil => exact hr
  | cons c t ih => exact oldDig_cons_not (dig_old (h c (by simp))) (ih (fun x hx => h x (by simp [hx])))
theorem digs_rch (row : Int) (ds : List UInt8) (h : ∀ c ∈ ds, digB c.toNat = true) (r : List UInt8) : rch row (ds ++ r) = rch row r := by
  induction ds with
  | nil => rfl
  | cons c t ih => rw [List.cons_append, rch_cons_not _ (dig_old (h c (by simp))), ih (fun x hx => h x (by simp [hx]))]
theorem dig_sel {c : Int} (h : digB c = true) : selB c = false := by simp [digB] at h; simp [selB]; omega
theorem digs_strg (q : Int → Bool) (ds : List UInt8) (h : ∀ c ∈ ds, digB c.toNat = true) (r : List UInt8) : strg q (ds ++ r) = strg q r := by
  induction ds with
  | nil => rfl
  | cons c t ih => rw [List.cons_append, strg_cons_not _ (dig_sel (h c (by simp))), ih (fun x hx => h x (by simp [hx]))]
theorem dg2_all (ds : List UInt8) (h : ∀ c ∈ ds, digB c.toNat = true) (h1 : 1 ≤ ds.length) (h2 : ds.length ≤ 2) (r : List UInt8) (hr : digB (hd r) = false) : dg2 (ds ++ r) = ds := by
  match ds, h1, h2 with
  | [x], _, _ =>
    have hx := h x (by simp)
    unfold dg2
    cases r with
    | nil => simp [hx]
    | cons y t => simp only [hd] at hr; simp [hx, hr]
  | [x, y], _, _ =>
    have hx := h x (by simp)
    have hy := h y (by simp)
    unfold dg2
    simp [hx, hy]
  | _ :: _ :: _ :: _, _, h2 => simp at h2
theorem lst_mem (e : List UInt8) (h : 0 < e.length) : ∃ c ∈ e, lst e = c.toNat := by
  cases hl : e.getLast? with
  | none => simp at hl; subst hl; simp at h
  | some c => exact ⟨c, List.mem_of_getLast? hl, by simp [lst, hl]⟩

/-- An operand is a factor. -/
theorem opnd_shape {e : List UInt8} {ps : List Pt} (h : Opnd e ps) : FacS e ps := by
  have hpos : 0 < e.length := by
    rcases h with ⟨h1, _⟩ | ⟨c, ds, rfl, _⟩
    · omega
    · simp
  have hflat : Flat e := by
    rcases h with ⟨_, _, hd, _⟩ | ⟨c, ds, rfl, _, hd, hs, _⟩
    · exact fun c hc => dig_flat (hd c hc)
    · intro x hx
      rw [List.mem_cons] at hx
      rcases hx with rfl | hx
      · rcases hs with ⟨hs, _⟩ | ⟨hs, _⟩
        · exact sel_flat hs
        · exact old_flat hs
      · exact dig_flat (hd x hx)
  have hfin : ∀ a b, fin e a b = -1 := by
    intro a b
    have := flat_fin a b e hflat (-1) 0 (-1) 0 []
    rw [List.append_nil] at this
    exact this
  have hlast : digB (lst e) = true := by
    rcases h with ⟨h1, _, hd, _⟩ | ⟨c, ds, rfl, h1, hd, hs, _⟩
    · obtain ⟨x, hx, he⟩ := lst_mem e hpos
      rw [he]; exact hd x hx
    · rw [lst_cons c ds (by omega)]
      obtain ⟨x, hx, he⟩ := lst_mem ds (by omega)
      rw [he]; exact hd x hx
  have hhead : ∀ c : Int, ((e.getD 0 0).toNat : Int) = c → ¬ c = 45 ∧ ¬ c = 40 := by
    intro c hc
    match e, hpos, hflat with
    | x :: t, _, hfl =>
      have hx := hfl x (by simp)
      simp at hc
      subst hc
      exact ⟨by intro h; rw [h] at hx; simp [opB] at hx, hx.2.1⟩
  have hcut : cut e = (0, [], e) := by
    unfold cut
    have hca : cutAt e = -1 := by unfold cutAt; rw [hfin, if_pos (by omega), hfin]
    rw [hca, if_neg (by omega), if_neg (fun hx => (hhead _ rfl).1 hx.2), if_neg (fun hx => (hhead _ rfl).2 hx.2)]
  refine ⟨⟨⟨1, .inl ⟨hcut, h⟩⟩, hpos, .inl hlast, ?_, ?_, ?_, ?_, ?_, ?_⟩, by rw [hfin]; omega, by rw [hfin]; omega⟩
  · intro a b p k at_ i r hk hp
    rw [flat_fin a b e hflat]
    have : ¬ e = [] := by intro h0; subst h0; simp at hpos
    rw [if_neg this]
    congr 1
    unfold upd
    rw [hfin, if_pos (show (-1 : Int) < 0 by omega)]
    split <;> rfl
  · intro c hc
    rcases h with ⟨_, _, hd, _⟩ | ⟨x, ds, rfl, _, hd, hs, _⟩
    · have := hd c hc; simp [digB] at this; omega
    · rw [List.mem_cons] at hc
      rcases hc with rfl | hc
      · rcases hs with ⟨hs, _⟩ | ⟨hs, _⟩
        · simp [selB] at hs; omega
        · simp [oldB] at hs; omega
      · have := hd c hc; simp [digB] at this; omega
  · intro r hr
    rcases h with ⟨_, _, hd, _⟩ | ⟨x, ds, rfl, h1, hd, hs, _⟩
    · exact digs_old e hd r hr
    · refine ⟨fun _ => ?_, digs_old ds hd r hr⟩
      match ds, h1, hd with
      | y :: t, _, hd => exact hd y (by simp)
  · intro row r
    rcases h with ⟨_, _, hd, rfl⟩ | ⟨x, ds, rfl, h1, hd, hs, rfl⟩
    · rw [digs_rch row e hd r]; simp [nameB, oldB]
    · rcases hs with ⟨hs, _⟩ | ⟨hs, hl⟩
      · rw [List.cons_append, rch_cons_not _ (sel_old hs), digs_rch row ds hd r]
        simp [nameB, sel_old hs]
      · obtain ⟨y, rfl⟩ := List.length_eq_one_iff.1 hl
        rw [List.cons_append, List.cons_append, List.nil_append]
        show ((oldB x.toNat && decide (row ≤ (y.toNat : Int) - 48)) || rch row (y :: r)) = _
        rw [rch_cons_not _ (dig_old (hd y (by simp)))]
        simp [nameB, val, valGo, hs]
  · intro q r hr
    rcases h with ⟨_, _, hd, rfl⟩ | ⟨x, ds, rfl, h1, hd, hs, rfl⟩
    · rw [digs_strg q e hd r]; simp [selq, selB]
    · rcases hs with ⟨hs, hl⟩ | ⟨hs, hl⟩
      · rw [List.cons_append]
        show ((selB x.toNat && q (val (dg2 (ds ++ r)))) || strg q (ds ++ r)) = _
        rw [digs_strg q ds hd r, dg2_all ds hd h1 hl r hr]
        simp [selq, hs]
      · have hns : selB (x.toNat : Int) = false := (old_c hs).2.2.2.2
        rw [List.cons_append, strg_cons_not _ hns, digs_strg q ds hd r]
        simp [selq, hns]
  · intro p hp
    rcases h with ⟨_, _, hd, rfl⟩ | ⟨x, ds, rfl, h1, hd, hs, rfl⟩
    · simp at hp; subst hp; exact val_pos e hd
    · simp at hp; subst hp; exact val_pos ds hd

/-- Reading a factor (a term, an expression) off l: l' is left, ps are its parts; or it stops ahead of l'. S: the shape of what was read; H: what is known of what is left. -/
def Got (S : List UInt8 → List Pt → Prop) (H : List UInt8 → Prop) (l : List UInt8) (ok : Bool) (l' : List UInt8) (ps : List Pt) : Prop :=
  ∃ x, l = x ++ l' ∧ (ok = true → (∀ d k i : Int, 0 ≤ k → plc 6 d k i l = plc 11 0 k (i + x.length) l') ∧ S (bare x) ps ∧ H l') ∧ (ok = false → ∀ d k i : Int, 0 ≤ k → plc 6 d k i l = i + x.length)
def Fac := Got FacS (fun _ => True)
/-- Neither a blank nor one of these operations is left. -/
def Trm := Got TrmS (fun l => ¬ hd l = 32 ∧ ¬ hd l = 42 ∧ ¬ hd l = 47)
def Exp := Got ExpS (fun l => ¬ hd l = 32 ∧ opB (hd l) = false)

theorem fac_blanks {x l l' : List UInt8} {ok : Bool} {ps : List Pt} {S : List UInt8 → List Pt → Prop} {H : List UInt8 → Prop} (hx : Blanks x) (h : Got S H l ok l' ps) : Got S H (x ++ l) ok l' ps := by
  obtain ⟨y, rfl, h1, h2⟩ := h
  refine ⟨x ++ y, by simp, fun ho => ⟨fun d k i hk => ?_, ?_, (h1 ho).2.2⟩, fun ho d k i hk => ?_⟩
  · rw [plc_skip 6 (by simp) x hx, (h1 ho).1 d k _ hk]
    congr 1
    simp; omega
  · rw [bare_append, bare_blanks hx]; exact (h1 ho).2.1
  · rw [plc_skip 6 (by simp) x hx, h2 ho d k _ hk]
    simp; omega
theorem fac_opnd {e l' : List UInt8} {ps : List Pt} (h : Opnd e ps) (he : ∀ d k i : Int, plc 6 d k i (e ++ l') = plc 11 0 k (i + e.length) l') : Fac (e ++ l') true l' ps := by
  have hs := opnd_shape h
  refine ⟨e, rfl, fun _ => ⟨fun d k i _ => he d k i, ?_, trivial⟩, fun h0 => by cases h0⟩
  have : bare e = e := by
    unfold bare; rw [List.filter_eq_self]; intro c hc
    have := (hs.1.chars c hc).1
    simpa using this
  rw [this]; exact hs
theorem bare_cons {c : UInt8} (h : ¬ c.toNat = 32) (l : List UInt8) : bare (c :: l) = c :: bare l := by
  rw [show c :: l = [c] ++ l from rfl, bare_append, bare_other h]; rfl
theorem fac_neg {c : UInt8} (hc : (c.toNat : Int) = 45) {l l' : List UInt8} {ok : Bool} {ps : List Pt} (h : Fac l ok l' ps) : Fac (c :: l) ok l' (ps ++ [(126, 0)]) := by
  obtain ⟨y, rfl, h1, h2⟩ := h
  refine ⟨c :: y, rfl, fun ho => ⟨fun d k i hk => ?_, ?_, trivial⟩, fun ho d k i hk => ?_⟩
  · rw [plc_neg hc, (h1 ho).1 d k _ hk]
    congr 1
    simp; omega
  · rw [bare_cons (by omega)]; exact FacS_neg (h1 ho).2.1 c hc
  · rw [plc_neg hc, h2 ho d k _ hk]
    simp; omega
/-- A bracket that is opened, an expression: it fails there. -/
theorem fac_par_no {c : UInt8} (hc : (c.toNat : Int) = 40) {l l' : List UInt8} {ps ps' : List Pt} (h : Exp l false l' ps) : Fac (c :: l) false l' ps' := by
  obtain ⟨y, rfl, h1, h2⟩ := h
  refine ⟨c :: y, rfl, (fun h0 => by cases h0), fun _ d k i hk => ?_⟩
  rw [plc_par hc, h2 rfl d (k + 1) _ (by omega)]
  simp; omega
theorem fac_par_open {c : UInt8} (hc : (c.toNat : Int) = 40) {l l' : List UInt8} {ps ps' : List Pt} (h : Exp l true l' ps) (h41 : ¬ hd l' = 41) : Fac (c :: l) false l' ps' := by
  obtain ⟨y, rfl, h1, h2⟩ := h
  have h3 := (h1 rfl).2.2
  refine ⟨c :: y, rfl, (fun h0 => by cases h0), fun _ d k i hk => ?_⟩
  rw [plc_par hc, (h1 rfl).1 d (k + 1) _ (by omega), plc_fail11 l' h3.1 h3.2 h41 _ _ _ hk]
  simp; omega
theorem fac_par_yes {c e : UInt8} (hc : (c.toNat : Int) = 40) (he : (e.toNat : Int) = 41) {l l' : List UInt8} {ps : List Pt} (h : Exp l true (e :: l') ps) : Fac (c :: l) true l' ps := by
  obtain ⟨y, rfl, h1, h2⟩ := h
  refine ⟨c :: (y ++ [e]), by simp, fun _ => ⟨fun d k i hk => ?_, ?_, trivial⟩, fun h0 => by cases h0⟩
  · rw [plc_par hc, (h1 rfl).1 d (k + 1) _ (by omega), plc_shut he _ _ _ hk]
    congr 1
    simp; omega
  · rw [bare_cons (by omega), bare_append, bare_other (by omega)]; exact FacS_par (h1 rfl).2.1 c e hc he
/-- From a factor to a term: blanks behind it are passed over. -/
theorem trm_fac {l x l' : List UInt8} {ps : List Pt} (h : Fac l true (x ++ l') ps) (hx : Blanks x) : Got TrmS (fun _ => True) l true l' ps := by
  obtain ⟨y, rfl, h1, h2⟩ := h
  refine ⟨y ++ x, by simp, fun _ => ⟨fun d k i hk => ?_, ?_, trivial⟩, fun h0 => by cases h0⟩
  · rw [(h1 rfl).1 d k _ hk, plc_skip 11 (by simp) x hx]
    congr 1
    simp; omega
  · rw [bare_append, bare_blanks hx, List.append_nil]; exact (h1 rfl).2.1.trm
theorem trm_no {l l' : List UInt8} {ps ps' : List Pt} {S : List UInt8 → List Pt → Prop} {H : List UInt8 → Prop} {S' : List UInt8 → List Pt → Prop} {H' : List UInt8 → Prop} (h : Got S H l false l' ps) : Got S' H' l false l' ps' := by
  obtain ⟨y, rfl, h1, h2⟩ := h
  exact ⟨y, rfl, (fun h0 => by cases h0), h2⟩
theorem trm_end {S : List UInt8 → List Pt → Prop} {H : List UInt8 → Prop} {l l' : List UInt8} {ps : List Pt} (h : Got S (fun _ => True) l true l' ps) (hh : H l') : Got S H l true l' ps := by
  obtain ⟨y, rfl, h1, h2⟩ := h
  exact ⟨y, rfl, fun _ => ⟨(h1 rfl).1, (h1 rfl).2.1, hh⟩, h2⟩
/-- A term, * or /, a factor. -/
theorem trm_mul {o : UInt8} (ho : (o.toNat : Int) = 42 ∨ (o.toNat : Int) = 47) {l r x l' : List UInt8} {p q : List Pt} (h : Got TrmS (fun _ => True) l true (o :: r) p) (hf : Fac r true (x ++ l') q) (hx : Blanks x) : Got TrmS (fun _ => True) l true l' (p ++ q ++ [((o.toNat : Int), 0)]) := by
  obtain ⟨y, rfl, h1, h2⟩ := h
  obtain ⟨z, rfl, g1, g2⟩ := hf
  have hop : opB o.toNat = true := by rcases ho with h | h <;> rw [h] <;> rfl
  refine ⟨y ++ o :: (z ++ x), by simp, fun _ => ⟨fun d k i hk => ?_, ?_, trivial⟩, fun h0 => by cases h0⟩
  · rw [(h1 rfl).1 d k _ hk, plc_op hop, (g1 rfl).1 _ k _ hk, plc_skip 11 (by simp) x hx]
    congr 1
    simp; omega
  · rw [bare_append, bare_cons (by omega), bare_append, bare_blanks hx, List.append_nil]; exact TrmS_mul (h1 rfl).2.1 (g1 rfl).2.1 o ho
theorem op_no {o : UInt8} (hop : opB o.toNat = true) {S : List UInt8 → List Pt → Prop} {H : List UInt8 → Prop} {S' : List UInt8 → List Pt → Prop} {H' : List UInt8 → Prop} {S2 : List UInt8 → List Pt → Prop} {H2 : List UInt8 → Prop} {l r l' : List UInt8} {p q p' : List Pt} (h : Got S H l true (o :: r) p) (hf : Got S' H' r false l' q) : Got S2 H2 l false l' p' := by
  obtain ⟨y, rfl, h1, h2⟩ := h
  obtain ⟨z, rfl, g1, g2⟩ := hf
  refine ⟨y ++ o :: z, by simp, (fun h0 => by cases h0), fun _ d k i hk => ?_⟩
  rw [(h1 rfl).1 d k _ hk, plc_op hop, g2 rfl _ k _ hk]
  simp; omega
/-- An expression, + or -, a term. -/
theorem exp_add {o : UInt8} (ho : (o.toNat : Int) = 43 ∨ (o.toNat : Int) = 45) {l r l' : List UInt8} {p q : List Pt} (h : Got ExpS (fun _ => True) l true (o :: r) p) (hf : Trm r true l' q) : Got ExpS (fun l => ¬ hd l = 32 ∧ ¬ hd l = 42 ∧ ¬ hd l = 47) l true l' (p ++ q ++ [((o.toNat : Int), 0)]) := by
  obtain ⟨y, rfl, h1, h2⟩ := h
  obtain ⟨z, rfl, g1, g2⟩ := hf
  have hop : opB o.toNat = true := by rcases ho with h | h <;> rw [h] <;> rfl
  refine ⟨y ++ o :: z, by simp, fun _ => ⟨fun d k i hk => ?_, ?_, (g1 rfl).2.2⟩, fun h0 => by cases h0⟩
  · rw [(h1 rfl).1 d k _ hk, plc_op hop, (g1 rfl).1 _ k _ hk]
    congr 1
    simp; omega
  · rw [bare_append, bare_cons (by omega)]; exact ExpS_add (h1 rfl).2.1 (g1 rfl).2.1 o ho
theorem exp_trm {l l' : List UInt8} {ps : List Pt} (h : Trm l true l' ps) : Got ExpS (fun l => ¬ hd l = 32 ∧ ¬ hd l = 42 ∧ ¬ hd l = 47) l true l' ps := by
  obtain ⟨y, rfl, h1, h2⟩ := h
  exact ⟨y, rfl, fun _ => ⟨(h1 rfl).1, (h1 rfl).2.1.1, (h1 rfl).2.2⟩, h2⟩
theorem got_any {S : List UInt8 → List Pt → Prop} {H : List UInt8 → Prop} {l l' : List UInt8} {ok : Bool} {ps : List Pt} (h : Got S H l ok l' ps) : Got S (fun _ => True) l ok l' ps := by
  obtain ⟨y, rfl, h1, h2⟩ := h
  exact ⟨y, rfl, fun ho => ⟨(h1 ho).1, (h1 ho).2.1, trivial⟩, h2⟩

end Db
namespace Go.Proofs.Ytdchbenfccofpaa
open Go.RowKit Db

theorem retI {k : IntKind} {a b : Int} (h : a = b) : Ending.returned (.int k a) = .returned (.int k b) := by rw [h]
/-- The cells of parts. -/
def cellsP (ps : List Pt) : List Value := ps.flatMap fun p => [.int .u8 p.1, .int .i64 p.2]
theorem cellsP_append (p q : List Pt) : cellsP (p ++ q) = cellsP p ++ cellsP q := by simp [cellsP]
theorem cellsP_length (p : List Pt) : (cellsP p).length = p.length * 2 := by
  induction p with
  | nil => rfl
  | cons x t ih => simp [cellsP] at ih ⊢; omega

/-- The reader lies in block b: its text, its place, its parts. -/
structure Rd (w : World) (b : Nat) (t : ByteArray) (at_ : Nat) (v : Value) (ps : List Pt) : Prop where
  blk : Blk w b #[.string t, .int .i64 at_, v] 49
  own : w.ownsRow (b + 1) 59 2 v ps.length (cellsP ps)
  le : at_ ≤ t.size
  cnt : ps.length ≤ at_
  sz : t.size ≤ 200

/-- The blocks that the reader's calls may write. -/
def XR (b : Nat) (v : Value) (k : Nat) : Prop := k = b ∨ some k = v.ownBlock
/-- From w to w' the reader's calls have been at work. -/
structure RdR (b : Nat) (t : ByteArray) (v : Value) (w w' : World) (at_ : Nat) (v' : Value) (ps : List Pt) : Prop where
  rd : Rd w' b t at_ v' ps
  frm : Frm w.heap.size (XR b v) w w'
  own : v'.ownBlock = v.ownBlock ∨ ∀ k, v'.ownBlock = some k → w.heap.size ≤ k

theorem RdR.refl {b : Nat} {t : ByteArray} {v : Value} {w : World} {at_ : Nat} {ps : List Pt} (h : Rd w b t at_ v ps) : RdR b t v w w at_ v ps := ⟨h, Frm.refl _ _ _, .inl rfl⟩
theorem RdR.trans {b : Nat} {t : ByteArray} {v v1 v2 : Value} {w w1 w2 : World} {a1 a2 : Nat} {p1 p2 : List Pt} (h : RdR b t v w w1 a1 v1 p1) (k : RdR b t v1 w1 w2 a2 v2 p2) : RdR b t v w w2 a2 v2 p2 := by
  refine ⟨k.rd, h.frm.trans (k.frm.mono h.frm.size ?_), ?_⟩
  · intro j hj hx
    rcases hx with hx | hx
    · exact .inl hx
    · rcases h.own with e | e
      · exact .inr (by rw [← e]; exact hx)
      · have := e j hx.symm; omega
  · rcases k.own with e | e
    · rcases h.own with f | f
      · exact .inl (e.trans f)
      · exact .inr (fun j hj => f j (e ▸ hj))
    · exact .inr (fun j hj => Nat.le_trans h.frm.size (e j hj))
/-- The reader moved its place; nothing else is turned. -/
theorem Rd.move {b : Nat} {t : ByteArray} {v : Value} {w w1 : World} {a a' : Nat} {ps : List Pt} (h : Rd w b t a v ps) (hb : Below w.heap.size w w1) (ha : a' ≤ t.size) (hc : ps.length ≤ a') : RdR b t v w (w1.setCell ⟨b, 1, none⟩ (.int .i64 a')) a' v ps := by
  refine ⟨⟨?_, ?_, ha, hc, h.sz⟩, ?_, .inl rfl⟩
  · have := (h.blk.kept hb).set 1 (.int .i64 a')
    simpa using this
  · exact ownsRow_setCell_below (ownsRow_below h.own hb) (by simp) _
  · exact hb.frm.setCell (.inr (.inl rfl)) _
theorem Rd.draws {b : Nat} {t : ByteArray} {v : Value} {w : World} {a : Nat} {ps : List Pt} (h : Rd w b t a v ps) (n : Nat) : RdR b t v w (w.drewN n) a v ps :=
  ⟨⟨h.blk, h.own, h.le, h.cnt, h.sz⟩, (Frm.refl _ _ _).drewN n, .inl rfl⟩
theorem RdR.draws {b : Nat} {t : ByteArray} {v v' : Value} {w w1 : World} {a : Nat} {ps : List Pt} (h : RdR b t v w w1 a v' ps) (n : Nat) : RdR b t v w (w1.drewN n) a v' ps := h.trans (h.rd.draws n)
theorem Rd.below {b : Nat} {t : ByteArray} {v : Value} {w w1 : World} {a : Nat} {ps : List Pt} (h : Rd w b t a v ps) (hb : Below w.heap.size w w1) : RdR b t v w w1 a v ps :=
  ⟨⟨h.blk.kept hb, ownsRow_below h.own hb, h.le, h.cnt, h.sz⟩, hb.frm, .inl rfl⟩
theorem RdR.move {b : Nat} {t : ByteArray} {v v' : Value} {w w1 : World} {a a' : Nat} {ps : List Pt} (h : RdR b t v w w1 a v' ps) (ha : a' ≤ t.size) (hc : ps.length ≤ a') : RdR b t v w (w1.setCell ⟨b, 1, none⟩ (.int .i64 a')) a' v' ps := h.trans (h.rd.move (Below.refl _ _) ha hc)

/-- The three cells, as the walk wants them. -/
theorem Rd.c0 {w : World} {b : Nat} {t : ByteArray} {a : Nat} {v : Value} {ps : List Pt} (h : Rd w b t a v ps) : w.cell? ⟨b, 0, none⟩ = some (.string t) := h.blk.cell 0
theorem Rd.c1 {w : World} {b : Nat} {t : ByteArray} {a : Nat} {v : Value} {ps : List Pt} (h : Rd w b t a v ps) : w.cell? ⟨b, 1, none⟩ = some (.int .i64 a) := h.blk.cell 1
theorem Rd.c2 {w : World} {b : Nat} {t : ByteArray} {a : Nat} {v : Value} {ps : List Pt} (h : Rd w b t a v ps) : w.cell? ⟨b, 2, none⟩ = some v := h.blk.cell 2
theorem Rd.z1 {w : World} {b : Nat} {t : ByteArray} {a : Nat} {v : Value} {ps : List Pt} (h : Rd w b t a v ps) : w.frozen? ⟨b, 1, none⟩ = false := h.blk.frozen 1
theorem Rd.z2 {w : World} {b : Nat} {t : ByteArray} {a : Nat} {v : Value} {ps : List Pt} (h : Rd w b t a v ps) : w.frozen? ⟨b, 2, none⟩ = false := h.blk.frozen 2

theorem blanks_snoc (t : ByteArray) (p k : Nat) (x : List UInt8) (hk : k < t.size) (h32 : t[k].toNat = 32) (h : (L t).drop p = x ++ (L t).drop k) (hx : Blanks x) : (L t).drop p = (x ++ [t[k]]) ++ (L t).drop (k + 1) ∧ Blanks (x ++ [t[k]]) := by
  refine ⟨by rw [h, L_drop t k hk]; simp, ?_⟩
  intro c hc
  simp at hc
  rcases hc with hc | rfl
  · exact hx c hc
  · exact h32
theorem hd_drop (t : ByteArray) (k : Nat) (hk : k < t.size) : hd ((L t).drop k) = (t[k].toNat : Int) := by rw [L_drop t k hk]; rfl
theorem hd_end (t : ByteArray) (k : Nat) (hk : t.size ≤ k) : hd ((L t).drop k) = 0 := by rw [L_drop_end t k hk]; rfl

set_option maxHeartbeats 1000000 in
theorem skipBlanks_any (b : Nat) (t : ByteArray) (p : Nat) (v : Value) (ps : List Pt) (w : World) (h : Rd w b t p v ps) :
    Calls Try.prog 45 #[.pointer (some ⟨b, 0, none⟩)] w fun e w' => e = .returned (.tuple #[]) ∧ ∃ p' x, p ≤ p' ∧ RdR b t v w w' p' v ps ∧ (L t).drop p = x ++ (L t).drop p' ∧ Blanks x ∧ ¬ hd ((L t).drop p') = 32 := by
  have H := hide h
  have hsz := h.sz
  clear h
  go_enter Try.func45, Try.ntmps45
  go_wp2_with fail
  go_loopg [] (t.size - p) (fun m wr => ∃ k x, p ≤ k ∧ k ≤ t.size ∧ m = t.size - k ∧ Hid (RdR b t v w wr k v ps) ∧ Hid ((L t).drop p = x ++ (L t).drop k) ∧ Hid (Blanks x))
  case atStart => exact ⟨p, [], Nat.le_refl _, (unhide H).le, rfl, RdR.refl (unhide H), rfl, by intro c hc; cases hc⟩
  case round =>
    obtain ⟨k, x, hpk, hk, rfl, Hr, Hx, Hb⟩ := hrel
    have c0 := (unhide Hr).rd.c0
    have c1 := (unhide Hr).rd.c1
    have z1 := (unhide Hr).rd.z1
    by_cases hlt : k < t.size
    · have d1 : decide ((k : Int) < (t.size : Int)) = true := by simp; omega
      by_cases h32 : t[k].toNat = 32
      · have e32 : ((t[k].toNat : Int) == 32) = true := by simp; omega
        have Hs := hide (blanks_snoc t p k x hlt h32 (unhide Hx) (unhide Hb))
        go_wp2_with fail
        go_quiet (fail)
        go_wp2_with fail
        go_roundg (t.size - (k + 1))
        case measure => omega
        case rel =>
          refine ⟨k + 1, _, by omega, by omega, rfl, ?_, (unhide Hs).1, (unhide Hs).2⟩
          have := ((unhide Hr).draws nq).move (a' := k + 1) (by omega) (by have := (unhide Hr).rd.cnt; omega)
          show RdR _ _ _ _ _ _ _ _
          simpa using this
      · have e32 : ((t[k].toNat : Int) == 32) = false := by simp; omega
        have Hn : Hid (¬ hd ((L t).drop k) = 32) := by show ¬ _; rw [hd_drop t k hlt]; omega
        go_wp2_with fail
        go_quiet (fail)
        go_wp2_with fail
        go_end0
        exact ⟨rfl, k, x, hpk, (unhide Hr).draws _, unhide Hx, unhide Hb, unhide Hn⟩
    · have d1 : decide ((k : Int) < (t.size : Int)) = false := by simp; omega
      have Hn : Hid (¬ hd ((L t).drop k) = 32) := by show ¬ _; rw [hd_end t k (by omega)]; omega
      go_wp2_with fail
      go_quiet (fail)
      go_wp2_with fail
      go_end0
      exact ⟨rfl, k, x, hpk, (unhide Hr).draws _, unhide Hx, unhide Hb, unhide Hn⟩

/-- What stands behind the blanks. -/
structure Skp (t : ByteArray) (p p' : Nat) (x : List UInt8) : Prop where
  le : p ≤ p'
  eq : (L t).drop p = x ++ (L t).drop p'
  bl : Blanks x
  nb : ¬ hd ((L t).drop p') = 32

set_option maxHeartbeats 1000000 in
theorem next_any (b : Nat) (t : ByteArray) (p : Nat) (v : Value) (ps : List Pt) (w : World) (h : Rd w b t p v ps) :
    Calls Try.prog 39 #[.pointer (some ⟨b, 0, none⟩)] w fun e w' => ∃ p' x, e = .returned (.int .u8 (hd ((L t).drop p'))) ∧ RdR b t v w w' p' v ps ∧ Skp t p p' x := by
  have H := hide h
  have hsz := h.sz
  clear h
  go_enter Try.func39, Try.ntmps39
  go_wp2_with fail
  refine (skipBlanks_any b t p v ps _ (unhide H)).mono ?_
  rintro e w1 ⟨rfl, p', x, hp, hr, hx, hb, hn⟩
  have c0 := hr.rd.c0
  have c1 := hr.rd.c1
  have Hr := hide hr
  have Hs : Hid (Skp t p p' x) := ⟨hp, hx, hb, hn⟩
  clear hr hx hb hn hp
  by_cases hlt : p' < t.size
  · have d1 : decide ((p' : Int) < (t.size : Int)) = true := by simp; omega
    have Hh := hide (hd_drop t p' hlt)
    go_wp2_with fail
    go_quiet (fail)
    go_wp2_with fail
    go_quiet (fail)
    go_wp2_with fail
    go_ret
    exact ⟨p', x, retI (unhide Hh).symm, ((unhide Hr).draws _).draws _, unhide Hs⟩
  · have d1 : decide ((p' : Int) < (t.size : Int)) = false := by simp; omega
    have Hh := hide (hd_end t p' (by omega))
    go_wp2_with fail
    go_quiet (fail)
    go_wp2_with fail
    go_ret
    exact ⟨p', x, retI (unhide Hh).symm, (unhide Hr).draws _, unhide Hs⟩

set_option maxHeartbeats 1000000 in
theorem accept_any (b : Nat) (t : ByteArray) (p : Nat) (v : Value) (ps : List Pt) (c : Int) (w : World) (h : Rd w b t p v ps) (hc : 0 < c) :
    Calls Try.prog 29 #[.pointer (some ⟨b, 0, none⟩), .int .u8 c] w fun e w' => ∃ p' x, Skp t p p' x ∧
      ((¬ hd ((L t).drop p') = c ∧ e = .returned (.bool false) ∧ RdR b t v w w' p' v ps) ∨ (∃ y, (y.toNat : Int) = c ∧ (L t).drop p' = y :: (L t).drop (p' + 1) ∧ e = .returned (.bool true) ∧ RdR b t v w w' (p' + 1) v ps)) := by
  have H := hide h
  have hsz := h.sz
  clear h
  go_enter Try.func29, Try.ntmps29
  go_wp2_with fail
  refine (next_any b t p v ps _ (unhide H)).mono ?_
  rintro e w1 ⟨p', x, rfl, hr, hs⟩
  have c1 := hr.rd.c1
  have z1 := hr.rd.z1
  have hle := hr.rd.le
  have Hr := hide hr
  have Hs := hide hs
  clear hr hs
  obtain ⟨y, hy⟩ : ∃ y, hd ((L t).drop p') = y := ⟨_, rfl⟩
  rw [hy]
  have Hy := hide hy
  clear hy
  by_cases hyc : y = c
  · have e1 : (y != c) = false := by simp [hyc]
    have hlt : p' < t.size := by
      have := unhide Hy
      by_cases h : p' < t.size
      · exact h
      · rw [hd_end t p' (by omega)] at this; omega
    have Hl := hide (L_drop t p' hlt)
    have Hyc : Hid ((t[p'].toNat : Int) = c) := by show _ = _; rw [← hd_drop t p' hlt, unhide Hy, hyc]
    clear hyc
    go_wp2_with fail
    go_ret
    refine ⟨p', x, unhide Hs, .inr ⟨t[p'], unhide Hyc, unhide Hl, rfl, ?_⟩⟩
    have := (unhide Hr).move (a' := p' + 1) (by omega) (by have := (unhide Hr).rd.cnt; omega)
    simpa using this
  · have e1 : (y != c) = true := by simp [bne, hyc]
    have Hyc := hide hyc
    go_wp2_with fail
    go_ret
    exact ⟨p', x, unhide Hs, .inl ⟨by rw [unhide Hy]; exact unhide Hyc, rfl, unhide Hr⟩⟩

end Go.Proofs.Ytdchbenfccofpaa
