/- Plain functions on lists of bytes: what the document's answer (the text package) does, said without the program; and facts on them. Walks of the small functions on bytes (nothing is said of the program beyond them). Walks of the document's answer: value, bare, split. Walks of the document's answer: binary, final, cut. Small facts on worlds: a block that holds just some cells; what old blocks do while new ones are made. Facts on the steps of a spot. Rows: their parts, their kinds; what the document's cutting makes of them. Walks of the document's answer: the spots, case by case (laid by genC.py). Walks of the document's answer: reaches, joined, kind. Facts on splitting. What Check answers to a report by its form. The form of a report: how the document's spots go on over pieces of a text. The form of a report, on: operands with a sign; where a text stops. -/
import Derived.KernelRfl
import Derived.Test.YtdchbenfccofpaaDoorRows
import Derived.WalkKit
import Derived.WalkSpells
import Derived.WalkLawsBesides
import Derived.Deep.QuietTactic
import Derived.BigQuiet
import Derived.Deep.Draws
namespace Db

/-- The bytes of a string. -/
def L (s : ByteArray) : List UInt8 := s.data.toList
theorem L_length (s : ByteArray) : (L s).length = s.size := by unfold L; rw [Array.length_toList]; rfl
theorem L_get (s : ByteArray) (k : Nat) (h : k < s.size) : (L s)[k]'(by rw [L_length]; exact h) = s[k] := by simp [L]; rfl
theorem L_get? (s : ByteArray) (k : Nat) (h : k < s.size) : (L s)[k]? = some s[k] := by
  rw [List.getElem?_eq_getElem (by rw [L_length]; exact h), L_get]
theorem L_drop (s : ByteArray) (k : Nat) (h : k < s.size) : (L s).drop k = s[k] :: (L s).drop (k + 1) := by
  rw [List.drop_eq_getElem_cons (by rw [L_length]; exact h), L_get]
theorem L_drop_end (s : ByteArray) (k : Nat) (h : s.size ≤ k) : (L s).drop k = [] := List.drop_eq_nil_of_le (by rw [L_length]; exact h)
theorem L_append (s t : ByteArray) : L (s ++ t) = L s ++ L t := by simp [L]
theorem L_extract (s : ByteArray) (a b : Nat) : L (s.extract a b) = ((L s).drop a).take (b - a) := by
  simp [L, ByteArray.data_extract, List.extract_eq_take_drop]
theorem L_inj {s t : ByteArray} (h : L s = L t) : s = t := by
  cases s; cases t; simp [L] at h; rw [h]

theorem L_take_succ (s : ByteArray) (k : Nat) (h : k < s.size) : (L s).take (k + 1) = (L s).take k ++ [s[k]] := by
  rw [List.take_succ_eq_append_getElem (by rw [L_length]; exact h), L_get]
theorem L_take_end (s : ByteArray) (k : Nat) (h : s.size ≤ k) : (L s).take k = L s := List.take_of_length_le (by rw [L_length]; exact h)
theorem L_one (s : ByteArray) (k : Nat) (h : k < s.size) : L (s.extract k (k + 1)) = [s[k]] := by
  rw [L_extract, L_drop s k h]; simp
theorem L_empty : L ⟨#[]⟩ = [] := rfl

/-- The value of digits, from n on. -/
def valGo (n : Int) : List UInt8 → Int
  | [] => n
  | c :: r => valGo (10 * n + ((c.toNat : Int) - 48)) r
def val (l : List UInt8) : Int := valGo 0 l
def isDig (c : UInt8) : Prop := 48 ≤ c.toNat ∧ c.toNat ≤ 57

/-- A text without its blanks. -/
def bare (l : List UInt8) : List UInt8 := l.filter fun c => c.toNat != 32

theorem bare_append (a b : List UInt8) : bare (a ++ b) = bare a ++ bare b := by simp [bare]
theorem bare_blank {c : UInt8} (h : c.toNat = 32) : bare [c] = [] := by simp [bare, h]
theorem bare_other {c : UInt8} (h : ¬ c.toNat = 32) : bare [c] = [c] := by simp [bare, h]
theorem bare_le (a : List UInt8) : (bare a).length ≤ a.length := List.length_filter_le _ _

/-- The parts of a text between the bytes c. -/
def splitGo (c : UInt8) (acc : List (List UInt8)) (cur : List UInt8) : List UInt8 → List (List UInt8)
  | [] => acc ++ [cur]
  | x :: r => if x = c then splitGo c (acc ++ [cur]) [] r else splitGo c acc (cur ++ [x]) r
def split (l : List UInt8) (c : UInt8) : List (List UInt8) := splitGo c [] [] l

/-- A byte (as a number) is a digit; one of @ ! #; one of $ <; one of + - * /. -/
def digB (c : Int) : Bool := decide (48 ≤ c) && decide (c ≤ 57)
def selB (c : Int) : Bool := c == 64 || c == 33 || c == 35
def oldB (c : Int) : Bool := c == 36 || c == 60
def opB (c : Int) : Bool := c == 43 || c == 45 || c == 42 || c == 47

/-- Stands an operation between two operands at c, when p stands ahead of it (-1: nothing)? -/
def binB (p c : Int) : Bool := opB c && (digB p || p == 41)
def dep (k c : Int) : Int := if c == 40 then k + 1 else if c == 41 then k - 1 else k
def hit (a b p k at_ i c : Int) : Int := if binB p c && k == 0 && (c == a || c == b) then i else at_

/-- Where the operation a or b stands that is worked out last. -/
def finGo (a b : Int) (p k at_ i : Int) : List UInt8 → Int
  | [] => at_
  | c :: r => finGo a b c.toNat (dep k c.toNat) (hit a b p (dep k c.toNat) at_ i c.toNat) (i + 1) r
def fin (l : List UInt8) (a b : Int) : Int := finGo a b (-1) 0 (-1) 0 l

theorem finGo_lt (a b : Int) (l : List UInt8) : ∀ p k at_ i : Int, at_ < i → finGo a b p k at_ i l < i + l.length := by
  induction l with
  | nil => intro p k at_ i h; simpa [finGo] using h
  | cons c r ih =>
    intro p k at_ i h
    have := ih c.toNat (dep k c.toNat) (hit a b p (dep k c.toNat) at_ i c.toNat) (i + 1) (by unfold hit; split <;> omega)
    simp only [finGo, List.length_cons]
    omega
theorem fin_lt (l : List UInt8) (a b : Int) : fin l a b < l.length := by
  have := finGo_lt a b l (-1) 0 (-1) 0 (by omega)
  unfold fin; omega

/-- Where an expression is cut; -1: nowhere. -/
def cutAt (l : List UInt8) : Int := if fin l 43 45 < 0 then fin l 42 47 else fin l 43 45
theorem cutAt_lt (l : List UInt8) : cutAt l < l.length := by
  unfold cutAt; split
  · exact fin_lt _ _ _
  · exact fin_lt _ _ _
/-- The sign, what stands left, what stands right. -/
def cut (l : List UInt8) : Int × List UInt8 × List UInt8 :=
  if 0 < cutAt l then (((l.getD (cutAt l).toNat 0).toNat : Int), l.take (cutAt l).toNat, l.drop ((cutAt l).toNat + 1))
  else if 1 < l.length ∧ ((l.getD 0 0).toNat : Int) = 45 then (126, [], l.drop 1)
  else if 2 < l.length ∧ ((l.getD 0 0).toNat : Int) = 40 then (40, [], (l.drop 1).take (l.length - 2))
  else (0, [], l)

/-- The next spot within the periods: state, digits, open brackets; none: the byte cannot stand there. -/
def daysS (a d o c : Int) : Option (Int × Int × Int) :=
  if digB c && (a == 0 || a == 3) then some (a + 1, 1, o)
  else if digB c && (a == 1 || a == 4) && decide (d < 3) then some (a, d + 1, o)
  else if c == 32 && (a == 1 || a == 4) then some (a + 1, d, o)
  else if c == 32 then some (a, d, o)
  else if c == 45 && (a == 1 || a == 2) then some (3, d, o)
  else if c == 44 && (a == 4 || a == 5) then some (0, d, o)
  else if c == 124 && (a == 4 || a == 5) then some (6, d, o)
  else none
/-- The next spot ahead of a factor or within an operand that is not complete. -/
def factS (a d o c : Int) : Option (Int × Int × Int) :=
  if a == 6 && (c == 32 || c == 45) then some (a, d, o)
  else if a == 6 && c == 40 then some (a, d, o + 1)
  else if a == 6 && digB c then some (7, 1, o)
  else if a == 6 && selB c then some (8, d, o)
  else if a == 6 && oldB c then some (9, d, o)
  else if a == 8 && digB c then some (10, d, o)
  else if a == 9 && digB c then some (11, d, o)
  else none
/-- The next spot behind an operand that is, or may be, complete. -/
def onwS (a d o c : Int) : Option (Int × Int × Int) :=
  if a == 7 && digB c && decide (d < 18) then some (a, d + 1, o)
  else if (a == 10 && digB c) || c == 32 then some (11, d, o)
  else if opB c || (c == 59 && o == 0) then some (6, d, o)
  else if c == 41 && decide (0 < o) then some (11, d, o - 1)
  else none
def stepS (a d o c : Int) : Option (Int × Int × Int) :=
  if a < 6 then daysS a d o c else if a == 6 || a == 8 || a == 9 then factS a d o c else onwS a d o c
/-- The place of the first byte that cannot stand there, or the end; -1: a report by its form. -/
def plc (a d o i : Int) : List UInt8 → Int
  | [] => if (a == 7 || a == 10 || a == 11) && !decide (0 < o) then -1 else i
  | c :: r => match stepS a d o c.toNat with
    | none => i
    | some (a', d', o') => plc a' d' o' (i + 1) r
/-- A spot as it is met. -/
def okS (a d o : Int) (n : Nat) : Prop := 0 ≤ a ∧ a ≤ 11 ∧ 0 ≤ d ∧ d ≤ 18 ∧ 0 ≤ o ∧ o ≤ n

end Db
namespace Go.Proofs.YtdchbenfccofpaaDoor
open Go.RowKit Db

theorem hide {p : Prop} (h : p) : Hid p := h
theorem unhide {p : Prop} (h : Hid p) : p := h
set_option maxHeartbeats 400000 in
theorem digit_any (c : Int) (w : World) :
    Calls Tryd.prog 65 #[.int .u8 c] w fun e w' => e = .returned (.bool (digB c)) ∧ w' = w := by
  by_cases h1 : 48 ≤ c <;> by_cases h2 : c ≤ 57
  all_goals
    go_enter Tryd.func65, Tryd.ntmps65
    go_wp2
    go_ret
    exact ⟨by simp [digB] <;> omega, rfl⟩

set_option maxHeartbeats 400000 in
theorem selector_any (c : Int) (w : World) :
    Calls Tryd.prog 87 #[.int .u8 c] w fun e w' => e = .returned (.bool (selB c)) ∧ w' = w := by
  by_cases h1 : (c == 64) = true <;> by_cases h2 : (c == 33) = true
  all_goals
    go_enter Tryd.func87, Tryd.ntmps87
    go_wp2
    go_ret
    exact ⟨by simp_all [selB], rfl⟩

set_option maxHeartbeats 400000 in
theorem older_any (c : Int) (w : World) :
    Calls Tryd.prog 62 #[.int .u8 c] w fun e w' => e = .returned (.bool (oldB c)) ∧ w' = w := by
  by_cases h1 : (c == 36) = true
  all_goals
    go_enter Tryd.func62, Tryd.ntmps62
    go_wp2
    go_ret
    exact ⟨by simp_all [oldB], rfl⟩

set_option maxHeartbeats 400000 in
theorem operation_any (c : Int) (w : World) :
    Calls Tryd.prog 88 #[.int .u8 c] w fun e w' => e = .returned (.bool (opB c)) ∧ w' = w := by
  by_cases h1 : (c == 43) = true <;> by_cases h2 : (c == 45) = true <;> by_cases h3 : (c == 42) = true
  all_goals
    go_enter Tryd.func88, Tryd.ntmps88
    go_wp2
    go_ret
    exact ⟨by simp_all [opB], rfl⟩

end Go.Proofs.YtdchbenfccofpaaDoor
namespace Go.Proofs.YtdchbenfccofpaaDoor
open Go.RowKit Db

theorem ret_int {k : IntKind} {a b : Int} (h : a = b) : Ending.returned (.int k a) = .returned (.int k b) := by rw [h]

theorem bare_yes (s u : ByteArray) (k : Nat) (h : k < s.size) (hb : ¬ s[k].toNat = 32) (hu : L u = bare ((L s).take k)) :
    L (u ++ s.extract k (k + 1)) = bare ((L s).take (k + 1)) := by
  rw [L_append, L_one s k h, L_take_succ s k h, bare_append, bare_other hb, hu]
theorem bare_no (s u : ByteArray) (k : Nat) (h : k < s.size) (hb : s[k].toNat = 32) (hu : L u = bare ((L s).take k)) :
    L u = bare ((L s).take (k + 1)) := by
  rw [L_take_succ s k h, bare_append, bare_blank hb, hu, List.append_nil]
theorem bare_size (s u : ByteArray) (k : Nat) (hu : L u = bare ((L s).take k)) : u.size ≤ k := by
  rw [← L_length, hu]; exact Nat.le_trans (bare_le _) (List.length_take_le _ _)

set_option maxHeartbeats 400000 in
theorem bare_any (s : ByteArray) (w : World) (hs : s.size ≤ 200) :
    Calls Tryd.prog 60 #[.string s] w fun e w' => ∃ t : ByteArray, e = .returned (.string t) ∧ L t = bare (L s) ∧ w' = w := by
  go_enter Tryd.func60, Tryd.ntmps60
  go_wp2
  go_loop [3, 4] (fun t i => ∃ k : Nat, ∃ u : ByteArray, k ≤ s.size ∧ i = .int .i64 k ∧ t = .string u ∧ Hid (L u = bare ((L s).take k))) (fun _ i => s.size - (intOf i).toNat)
  case atStart => exact ⟨0, _, Nat.zero_le _, rfl, rfl, hide rfl⟩
  case round =>
    obtain ⟨k, u, hk, rfl, rfl, Hu⟩ := hrel
    have hz := bare_size s u k (unhide Hu)
    by_cases hlt : k < s.size
    · by_cases hb : s[k].toNat = 32
      · have hb' : ((s[k].toNat : Int) != 32) = false := by simp; omega
        go_wp2
        go_round
        case rel => exact ⟨k + 1, u, by omega, by go_num, rfl, bare_no s u k hlt hb (unhide Hu)⟩
        case measure => simp [intOf]; omega
      · have hb' : ((s[k].toNat : Int) != 32) = true := by simp; omega
        go_wp2
        go_round
        case rel => exact ⟨k + 1, _, by omega, by go_num, rfl, bare_yes s u k hlt hb (unhide Hu)⟩
        case measure => simp [intOf]; omega
    · go_wp2
      go_ret
      exact ⟨u, rfl, by rw [unhide Hu, L_take_end s k (by omega)], rfl⟩

theorem val_step (s : ByteArray) (k : Nat) (h : k < s.size) (n : Int) : valGo n ((L s).drop k) = valGo (10 * n + ((s[k].toNat : Int) - 48)) ((L s).drop (k + 1)) := by
  rw [L_drop s k h]; rfl
def pow10 (k : Nat) : Int := 10 ^ k
theorem pow10_succ (k : Nat) : pow10 (k + 1) = 10 * pow10 k := by unfold pow10; rw [Int.pow_succ]; omega
theorem pow10_pos (k : Nat) : 1 ≤ pow10 k := by
  induction k with
  | zero => decide
  | succ k ih => rw [pow10_succ]; omega
theorem pow10_le (k : Nat) (h : k ≤ 17) : pow10 k ≤ 100000000000000000 := by
  have : pow10 17 = 100000000000000000 := by decide
  have key : ∀ d j : Nat, j + d = 17 → pow10 j ≤ pow10 17 := by
    intro d
    induction d with
    | zero => intro j hj; rw [show j = 17 by omega]; exact Int.le_refl _
    | succ d ih => intro j hj; have := ih (j + 1) (by omega); rw [pow10_succ] at this; have := pow10_pos j; omega
  have := key (17 - k) k (by omega)
  omega

set_option maxHeartbeats 400000 in
theorem value_any (s : ByteArray) (w : World) (hs : s.size ≤ 18) (hd : ∀ k (h : k < s.size), 48 ≤ s[k].toNat ∧ s[k].toNat ≤ 57) :
    Calls Tryd.prog 61 #[.string s] w fun e w' => e = .returned (.int .i64 (val (L s))) ∧ 0 ≤ val (L s) ∧ val (L s) < pow10 s.size ∧ w' = w := by
  have Hd := hide hd
  clear hd
  go_enter Tryd.func61, Tryd.ntmps61
  go_wp2
  go_loop [3, 4] (fun t i => ∃ k : Nat, ∃ n : Int, k ≤ s.size ∧ i = .int .i64 k ∧ t = .int .i64 n ∧ 0 ≤ n ∧ n < pow10 k ∧ Hid (val (L s) = valGo n ((L s).drop k))) (fun _ i => s.size - (intOf i).toNat)
  case atStart => exact ⟨0, 0, Nat.zero_le _, rfl, rfl, by omega, by decide, hide rfl⟩
  case round =>
    obtain ⟨k, n, hk, rfl, rfl, h0, h1, Hu⟩ := hrel
    by_cases hlt : k < s.size
    · have hdd := unhide Hd k hlt
      have hp := pow10_le k (by omega)
      have hn : n ≤ 99999999999999999 := by omega
      clear hp
      go_wp2
      go_round
      case rel =>
        have hp2 := pow10_succ k
        refine ⟨k + 1, _, by omega, by go_num, rfl, by omega, by omega, ?_⟩
        show val _ = _
        rw [unhide Hu, val_step s k hlt]
      case measure => simp [intOf]; omega
    · go_wp2
      go_ret
      have hk' : k = s.size := by omega
      subst hk'
      have e : val (L s) = n := by rw [unhide Hu, L_drop_end s _ (Nat.le_refl _)]; rfl
      exact ⟨ret_int e.symm, by omega, by omega, rfl⟩


theorem split_step (s : ByteArray) (c : UInt8) (acc : List (List UInt8)) (f k : Nat) (hf : f ≤ k) (h : k < s.size) (hb : ¬ s[k] = c) :
    splitGo c acc (L (s.extract f k)) ((L s).drop k) = splitGo c acc (L (s.extract f (k + 1))) ((L s).drop (k + 1)) := by
  rw [L_drop s k h]
  show (if s[k] = c then _ else _) = _
  rw [if_neg hb]
  congr 1
  rw [L_extract, L_extract, show k + 1 - f = (k - f) + 1 by omega, List.take_succ_eq_append_getElem (by rw [List.length_drop, L_length]; omega)]
  congr 2
  rw [List.getElem_drop]
  simp only [show f + (k - f) = k by omega]
  exact (L_get s k h).symm
theorem split_cut (s : ByteArray) (c : UInt8) (acc : List (List UInt8)) (f k : Nat) (h : k < s.size) (hb : s[k] = c) :
    splitGo c acc (L (s.extract f k)) ((L s).drop k) = splitGo c (acc ++ [L (s.extract f k)]) (L (s.extract (k + 1) (k + 1))) ((L s).drop (k + 1)) := by
  rw [L_drop s k h]
  show (if s[k] = c then _ else _) = _
  rw [if_pos hb, L_extract s (k + 1) (k + 1), Nat.sub_self, List.take_zero]

theorem info_string : (Tryd.prog.info? 9).map (fun i => (i.zero, i.size, i.bytes)) = some (some (.string ⟨#[]⟩), 1, 16) := by kernel_rfl

set_option maxHeartbeats 400000 in
theorem split_any (s : ByteArray) (c : UInt8) (w : World) (hs : s.size ≤ 50000) :
    Calls Tryd.prog 59 #[.string s, .int .u8 (c.toNat : Int)] w fun e w' => ∃ v : Value, ∃ ss : List ByteArray, e = .returned v ∧ ss.map L = split (L s) c ∧
      w'.ownsRow w.heap.size 9 1 v ss.length (ss.map Value.string) ∧ Below w.heap.size w w' := by
  obtain ⟨i, hi, hz0, hz1, hz2⟩ := info_parts info_string
  go_enter Tryd.func59, Tryd.ntmps59
  go_wp2
  go_loopw [5, 6, 7] (fun v f i wr => ∃ k fr : Nat, ∃ ss : List ByteArray, fr ≤ k ∧ k ≤ s.size ∧ i = .int .i64 k ∧ f = .int .i64 fr ∧ ss.length ≤ k ∧
      Hid (splitGo c (ss.map L) (L (s.extract fr k)) ((L s).drop k) = split (L s) c) ∧ Hid (wr.ownsRow w.heap.size 9 1 v ss.length (ss.map Value.string)) ∧ Hid (Below w.heap.size w wr)) (fun _ _ i _ => s.size - (intOf i).toNat)
  case atStart => exact ⟨0, 0, [], by omega, by omega, rfl, rfl, by simp, hide (by rw [L_extract]; rfl), hide (World.ownsRow_nil _ _ _ _), hide (Below.refl _ _)⟩
  case round =>
    obtain ⟨k, fr, ss, hfr, hk, rfl, rfl, hss, Hs, Ho, Hb⟩ := hrel
    have hsz := (unhide Hb).size
    by_cases hlt : k < s.size
    · by_cases hc : s[k] = c
      · have hc' : ((s[k].toNat : Int) == (c.toNat : Int)) = true := by rw [hc]; simp
        have HC := hide hc
        clear hc
        go_wp2_with (first
          | (at_builtin; refine wpList_append_own _ rfl _ _ 50 rfl w.heap.size 9 i (.string ⟨#[]⟩) 1 16 Tryd.underlying50 hi hz0 hz1 hz2 rfl (by decide) _ _ _ rfl ((unhide Ho).alloc _) ⟨wr.heap.size, 0, none⟩ 1 1 [.string (s.extract fr k)] rfl rfl (cell_one_new _ _ _) (fun x hx => by simp at hx; subst hx; rfl) (by unfold maxLen; omega) (by omega) (by simp; omega) ?_; intro v' w2 hown2 hgr2 _))
        have Hown := hide hown2
        have Hgr := hide hgr2
        clear hown2 hgr2
        go_wp2
        go_roundw
        case rel =>
          refine ⟨k + 1, k + 1, ss ++ [s.extract fr k], by omega, by omega, by go_num, by go_num, by simp; omega, ?_, ?_, ?_⟩
          · show splitGo _ _ _ _ = _
            rw [← unhide Hs, split_cut s c _ fr k hlt (unhide HC)]; simp
          · show World.ownsRow _ _ _ _ _ _ _
            simpa using unhide Hown
          · exact ((unhide Hb).alloc hsz _).grown (unhide Hgr) (by simp; omega) (fun g hg => ((unhide Ho).lt g hg).1)
        case measure => simp [intOf]; omega
      · have hc' : ((s[k].toNat : Int) == (c.toNat : Int)) = false := by
          rw [beq_eq_false_iff_ne]; intro h; exact hc (UInt8.toNat_inj.1 (by omega))
        go_wp2
        go_roundw
        case rel =>
          refine ⟨k + 1, fr, ss, by omega, by omega, by go_num, rfl, by omega, ?_, Ho, Hb⟩
          show splitGo _ _ _ _ = _
          rw [← unhide Hs, split_step s c _ fr k hfr hlt hc]
        case measure => simp [intOf]; omega
    · have hk' : k = s.size := by omega
      subst hk'
      clear hk hlt
      go_wp2_with (first
          | (at_builtin; refine wpList_append_own _ rfl _ _ 50 rfl w.heap.size 9 i (.string ⟨#[]⟩) 1 16 Tryd.underlying50 hi hz0 hz1 hz2 rfl (by decide) _ _ _ rfl ((unhide Ho).alloc _) ⟨wr.heap.size, 0, none⟩ 1 1 [.string (s.extract fr s.size)] rfl rfl (cell_one_new _ _ _) (fun x hx => by simp at hx; subst hx; rfl) (by unfold maxLen; omega) (by omega) (by simp; omega) ?_; intro v' w2 hown2 hgr2 _))
      have Hown := hide hown2
      have Hgr := hide hgr2
      clear hown2 hgr2
      go_wp2
      go_ret
      refine ⟨v', ss ++ [s.extract fr s.size], rfl, ?_, ?_, ?_⟩
      · rw [← unhide Hs, L_drop_end s _ (Nat.le_refl _)]; simp [splitGo]
      · simpa using unhide Hown
      · exact ((unhide Hb).alloc hsz _).grown (unhide Hgr) (by simp; omega) (fun g hg => ((unhide Ho).lt g hg).1)

end Go.Proofs.YtdchbenfccofpaaDoor
namespace Go.Proofs.YtdchbenfccofpaaDoor
open Go.RowKit Db

/-- The byte ahead of place i. -/
def prv (s : ByteArray) (i : Nat) : Int := if h : 0 < i ∧ i - 1 < s.size then ((s[i - 1]'h.2).toNat : Int) else -1
theorem prv_zero (s : ByteArray) : prv s 0 = -1 := by simp [prv]
theorem prv_succ (s : ByteArray) (i : Nat) (h : i < s.size) : prv s (i + 1) = (s[i].toNat : Int) := by simp [prv, h]

set_option maxHeartbeats 400000 in
theorem binary_any (s : ByteArray) (i : Nat) (w : World) (hs : s.size ≤ 200) (hi : i < s.size) :
    Calls Tryd.prog 89 #[.string s, .int .i64 (i : Int)] w fun e w' => e = .returned (.bool (binB (prv s i) (s[i].toNat : Int))) ∧ w' = w := by
  by_cases ho : opB (s[i].toNat : Int) = true
  · by_cases h0 : i = 0
    · subst h0
      have Hp := hide (prv_zero s)
      go_enter Tryd.func89, Tryd.ntmps89
      go_wp2_with (go_at_call 88; refine (operation_any _ _).mono ?_; rintro e w' ⟨rfl, rfl⟩)
      go_ret
      exact ⟨by rw [unhide Hp]; simp [binB, digB], rfl⟩
    · obtain ⟨j, rfl⟩ : ∃ j, i = j + 1 := ⟨i - 1, by omega⟩
      have Hp := hide (prv_succ s j (by omega))
      have h0' : (((j + 1 : Nat) : Int) == 0) = false := by rw [beq_eq_false_iff_ne]; omega
      clear h0
      by_cases hd : digB (s[j].toNat : Int) = true
      all_goals
        go_enter Tryd.func89, Tryd.ntmps89
        go_wp2_with (first
          | (go_at_call 88; refine (operation_any _ _).mono ?_; rintro e w' ⟨rfl, rfl⟩)
          | (go_at_call 65; refine (digit_any _ _).mono ?_; rintro e w' ⟨rfl, rfl⟩))
        go_ret
        exact ⟨by rw [unhide Hp]; simp [binB, hd, ho], rfl⟩
  · go_enter Tryd.func89, Tryd.ntmps89
    go_wp2_with (go_at_call 88; refine (operation_any _ _).mono ?_; rintro e w' ⟨rfl, rfl⟩)
    go_ret
    exact ⟨by simp [binB, ho], rfl⟩


theorem fin_step (s : ByteArray) (a b : Int) (j : Nat) (h : j < s.size) (k at_ : Int) :
    finGo a b (prv s j) k at_ j ((L s).drop j) = finGo a b (prv s (j + 1)) (dep k (s[j].toNat : Int)) (hit a b (prv s j) (dep k (s[j].toNat : Int)) at_ j (s[j].toNat : Int)) ((j + 1 : Nat) : Int) ((L s).drop (j + 1)) := by
  rw [L_drop s j h, prv_succ s j h]; rfl
theorem bin_not (p c : Int) (h : c = 40 ∨ c = 41) : binB p c = false := by rcases h with rfl | rfl <;> simp [binB, opB]
theorem hit_not (a b p k at_ i c : Int) (h : binB p c = false) : hit a b p k at_ i c = at_ := by simp [hit, h]
theorem hit_deep (a b p k at_ i c : Int) (h : (k == 0) = false) : hit a b p k at_ i c = at_ := by simp [hit, h]
theorem hit_other (a b p k at_ i c : Int) (h : (c == a) = false) (h2 : (c == b) = false) : hit a b p k at_ i c = at_ := by simp [hit, h, h2]
theorem hit_yes (a b p k at_ i c : Int) (h : binB p c = true) (h1 : (k == 0) = true) (h2 : (c == a) = true ∨ (c == b) = true) : hit a b p k at_ i c = i := by
  simp only [hit, h, h1]; rcases h2 with h2 | h2 <;> simp [h2]
theorem dep_open (k c : Int) (h : (c == 40) = true) : dep k c = k + 1 := by simp only [dep, h]; rfl
theorem dep_shut (k c : Int) (h0 : (c == 40) = false) (h : (c == 41) = true) : dep k c = k - 1 := by simp only [dep, h0, h]; rfl
theorem dep_else (k c : Int) (h0 : (c == 40) = false) (h : (c == 41) = false) : dep k c = k := by simp only [dep, h0, h]; rfl

set_option maxHeartbeats 1000000 in
theorem final_any (s : ByteArray) (a b : Int) (w : World) (hs : s.size ≤ 200) :
    Calls Tryd.prog 64 #[.string s, .int .u8 a, .int .u8 b] w fun e w' => e = .returned (.int .i64 (fin (L s) a b)) ∧ w' = w := by
  go_enter Tryd.func64, Tryd.ntmps64
  go_wp2
  go_loop [7, 8, 9] (fun o t i => ∃ j : Nat, ∃ k at_ : Int, j ≤ s.size ∧ i = .int .i64 j ∧ o = .int .i64 k ∧ t = .int .i64 at_ ∧ -j ≤ k ∧ k ≤ j ∧ Hid (finGo a b (prv s j) k at_ j ((L s).drop j) = fin (L s) a b)) (fun _ _ i => s.size - (intOf i).toNat)
  case atStart => exact ⟨0, 0, -1, Nat.zero_le _, rfl, rfl, rfl, by omega, by omega, hide (by rw [prv_zero]; rfl)⟩
  case round =>
    obtain ⟨j, k, at_, hj, rfl, rfl, rfl, hk1, hk2, Hf⟩ := hrel
    by_cases hlt : j < s.size
    · have Hst := hide (fin_step s a b j hlt k at_)
      obtain ⟨bn, hbn⟩ : ∃ bn, binB (prv s j) (s[j].toNat : Int) = bn := ⟨_, rfl⟩
      have Hbn := hide hbn
      clear hbn
      by_cases h40 : ((s[j].toNat : Int) == 40) = true
      · have hb : bn = false := by rw [← unhide Hbn]; exact bin_not _ _ (Or.inl (by simpa using h40))
        subst hb
        go_wp2_with (go_at_call 89; refine (binary_any s j _ hs hlt).mono ?_; rintro e w' ⟨rfl, rfl⟩; rw [unhide Hbn])
        go_round
        case rel => exact ⟨j + 1, _, _, by omega, by go_num, rfl, rfl, by omega, by omega, by show _ = _; rw [← unhide Hf, unhide Hst, dep_open _ _ h40, hit_not _ _ _ _ _ _ _ (unhide Hbn)]⟩
        case measure => simp [intOf]; omega
      · have h40' : ((s[j].toNat : Int) == 40) = false := by simpa using h40
        by_cases h41 : ((s[j].toNat : Int) == 41) = true
        · have hb : bn = false := by rw [← unhide Hbn]; exact bin_not _ _ (Or.inr (by simpa using h41))
          subst hb
          go_wp2_with (go_at_call 89; refine (binary_any s j _ hs hlt).mono ?_; rintro e w' ⟨rfl, rfl⟩; rw [unhide Hbn])
          go_round
          case rel => exact ⟨j + 1, _, _, by omega, by go_num, rfl, rfl, by omega, by omega, by show _ = _; rw [← unhide Hf, unhide Hst, dep_shut _ _ h40' h41, hit_not _ _ _ _ _ _ _ (unhide Hbn)]⟩
          case measure => simp [intOf]; omega
        · have h41' : ((s[j].toNat : Int) == 41) = false := by simpa using h41
          have Hd := hide (dep_else k (s[j].toNat : Int) h40' h41')
          clear h40 h41
          cases bn with
          | false =>
            go_wp2_with (go_at_call 89; refine (binary_any s j _ hs hlt).mono ?_; rintro e w' ⟨rfl, rfl⟩; rw [unhide Hbn])
            go_round
            case rel => exact ⟨j + 1, _, _, by omega, by go_num, rfl, rfl, by omega, by omega, by show _ = _; rw [← unhide Hf, unhide Hst, unhide Hd, hit_not _ _ _ _ _ _ _ (unhide Hbn)]⟩
            case measure => simp [intOf]; omega
          | true =>
            by_cases hk0 : (k == 0) = true
            · by_cases ha : ((s[j].toNat : Int) == a) = true
              · go_wp2_with (go_at_call 89; refine (binary_any s j _ hs hlt).mono ?_; rintro e w' ⟨rfl, rfl⟩; rw [unhide Hbn])
                go_round
                case rel => exact ⟨j + 1, _, _, by omega, by go_num, rfl, rfl, by omega, by omega, by show _ = _; rw [← unhide Hf, unhide Hst, unhide Hd, hit_yes _ _ _ _ _ _ _ (unhide Hbn) hk0 (Or.inl ha)]⟩
                case measure => simp [intOf]; omega
              · have ha' : ((s[j].toNat : Int) == a) = false := by simpa using ha
                clear ha
                by_cases hb : ((s[j].toNat : Int) == b) = true
                · go_wp2_with (go_at_call 89; refine (binary_any s j _ hs hlt).mono ?_; rintro e w' ⟨rfl, rfl⟩; rw [unhide Hbn])
                  go_round
                  case rel => exact ⟨j + 1, _, _, by omega, by go_num, rfl, rfl, by omega, by omega, by show _ = _; rw [← unhide Hf, unhide Hst, unhide Hd, hit_yes _ _ _ _ _ _ _ (unhide Hbn) hk0 (Or.inr hb)]⟩
                  case measure => simp [intOf]; omega
                · have hb' : ((s[j].toNat : Int) == b) = false := by simpa using hb
                  clear hb
                  go_wp2_with (go_at_call 89; refine (binary_any s j _ hs hlt).mono ?_; rintro e w' ⟨rfl, rfl⟩; rw [unhide Hbn])
                  go_round
                  case rel => exact ⟨j + 1, _, _, by omega, by go_num, rfl, rfl, by omega, by omega, by show _ = _; rw [← unhide Hf, unhide Hst, unhide Hd, hit_other _ _ _ _ _ _ _ ha' hb']⟩
                  case measure => simp [intOf]; omega
            · have hk0' : (k == 0) = false := by simpa using hk0
              clear hk0
              go_wp2_with (go_at_call 89; refine (binary_any s j _ hs hlt).mono ?_; rintro e w' ⟨rfl, rfl⟩; rw [unhide Hbn])
              go_round
              case rel => exact ⟨j + 1, _, _, by omega, by go_num, rfl, rfl, by omega, by omega, by show _ = _; rw [← unhide Hf, unhide Hst, unhide Hd, hit_deep _ _ _ _ _ _ _ hk0']⟩
              case measure => simp [intOf]; omega
    · go_wp2
      go_ret
      exact ⟨ret_int (by rw [← unhide Hf, L_drop_end s _ (by omega)]; rfl), rfl⟩

/-- What a cut gives, as values. -/
def CutV (s : ByteArray) (o : Int) (l r : ByteArray) : Prop := (cut (L s)).1 = o ∧ L l = (cut (L s)).2.1 ∧ L r = (cut (L s)).2.2
theorem L_getD (s : ByteArray) (k : Nat) (h : k < s.size) : (L s).getD k 0 = s[k] := by
  rw [List.getD_eq_getElem?_getD, L_get? s k h]; rfl
theorem L_getD0 (s : ByteArray) (h : 0 < s.size) : (L s).getD 0 0 = s[0] := L_getD s 0 h
theorem cutV_at (s : ByteArray) (i : Nat) (h0 : 0 < i) (h : i < s.size) (hc : cutAt (L s) = (i : Int)) : CutV s (s[i].toNat : Int) (s.extract 0 i) (s.extract (i + 1) s.size) := by
  unfold CutV cut
  rw [if_pos (by rw [hc]; omega)]
  refine ⟨?_, ?_, ?_⟩
  · simp only [hc, Int.toNat_natCast]; rw [L_getD s i h]
  · simp only [hc, Int.toNat_natCast]; rw [L_extract]; simp
  · simp only [hc, Int.toNat_natCast]; rw [L_extract]; exact List.take_of_length_le (by rw [List.length_drop, L_length]; omega)
theorem cutV_neg (s : ByteArray) (hn : cutAt (L s) ≤ 0) (h : 1 < s.size) (hc : (s[0].toNat : Int) = 45) : CutV s 126 ⟨#[]⟩ (s.extract 1 s.size) := by
  unfold CutV cut
  rw [if_neg (Int.not_lt.2 hn), if_pos ⟨by rw [L_length]; exact h, by rw [L_getD0 s (by omega)]; exact hc⟩]
  refine ⟨rfl, rfl, ?_⟩
  rw [L_extract]; exact List.take_of_length_le (by rw [List.length_drop, L_length]; omega)
theorem cutV_par (s : ByteArray) (hn : cutAt (L s) ≤ 0) (h : 2 < s.size) (hc : (s[0].toNat : Int) = 40) : CutV s 40 ⟨#[]⟩ (s.extract 1 (s.size - 1)) := by
  unfold CutV cut
  rw [if_neg (Int.not_lt.2 hn), if_neg (by rintro ⟨_, h2⟩; rw [L_getD0 s (by omega)] at h2; omega), if_pos ⟨by rw [L_length]; exact h, by rw [L_getD0 s (by omega)]; exact hc⟩]
  refine ⟨rfl, rfl, ?_⟩
  rw [L_extract, L_length, show s.size - 1 - 1 = s.size - 2 by omega]
theorem cutV_not (s : ByteArray) (hn : cutAt (L s) ≤ 0) (h1 : ¬ (1 < (L s).length ∧ (((L s).getD 0 0).toNat : Int) = 45)) (h2 : ¬ (2 < (L s).length ∧ (((L s).getD 0 0).toNat : Int) = 40)) : CutV s 0 ⟨#[]⟩ s := by
  unfold CutV cut
  rw [if_neg (Int.not_lt.2 hn), if_neg h1, if_neg h2]
  exact ⟨rfl, rfl, rfl⟩

theorem cutV_not' (s : ByteArray) (hn : cutAt (L s) ≤ 0) (h1 : ¬ (1 < s.size ∧ ∃ h : 0 < s.size, (s[0].toNat : Int) = 45)) (h2 : ¬ (2 < s.size ∧ ∃ h : 0 < s.size, (s[0].toNat : Int) = 40)) : CutV s 0 ⟨#[]⟩ s := by
  refine cutV_not s hn ?_ ?_
  · rintro ⟨ha, hb⟩
    rw [L_length] at ha
    rw [L_getD0 s (by omega)] at hb
    exact h1 ⟨ha, by omega, hb⟩
  · rintro ⟨ha, hb⟩
    rw [L_length] at ha
    rw [L_getD0 s (by omega)] at hb
    exact h2 ⟨ha, by omega, hb⟩

set_option maxHeartbeats 1000000 in
theorem cut_any (s : ByteArray) (w : World) (hs : s.size ≤ 200) :
    Calls Tryd.prog 35 #[.string s] w fun e w' => ∃ o : Int, ∃ l r : ByteArray, e = .returned (.tuple #[.int .u8 o, .string l, .string r]) ∧ CutV s o l r ∧ ∃ n, w' = w.drewN n := by
  have hlt := cutAt_lt (L s)
  rw [L_length] at hlt
  obtain ⟨f1, hf1⟩ : ∃ f1, fin (L s) 43 45 = f1 := ⟨_, rfl⟩
  obtain ⟨f2, hf2⟩ : ∃ f2, fin (L s) 42 47 = f2 := ⟨_, rfl⟩
  obtain ⟨i, hi⟩ : ∃ i, cutAt (L s) = i := ⟨_, rfl⟩
  have hi' := hi
  unfold cutAt at hi'
  rw [hf1, hf2] at hi'
  rw [hi] at hlt
  have Hf1 := hide hf1
  have Hf2 := hide hf2
  have Hi := hide hi
  clear hf1 hf2 hi
  by_cases hneg : f1 < 0
  · rw [if_pos hneg] at hi'
    subst hi'
    by_cases hpos : 0 < f2
    · obtain ⟨n, rfl⟩ := Int.eq_ofNat_of_zero_le (show 0 ≤ f2 by omega)
      have hn : n < s.size := by omega
      have hn1 : n + 1 ≤ s.size := by omega
      go_enter Tryd.func35, Tryd.ntmps35
      go_wp2_with fail
      refine (final_any s 43 45 _ hs).mono ?_
      rintro e w' ⟨rfl, rfl⟩
      rw [unhide Hf1]
      go_wp2_with fail
      refine (final_any s 42 47 _ hs).mono ?_
      rintro e w' ⟨rfl, rfl⟩
      rw [unhide Hf2]
      go_wp2_with fail
      go_quiet (fail)
      go_wp2
      go_ret3
      exact ⟨_, _, _, rfl, cutV_at s n (by omega) hn (unhide Hi), _, rfl⟩
    have Hn : Hid (cutAt (L s) ≤ 0) := by show _ ≤ _; rw [unhide Hi]; omega
    by_cases h1 : 1 < s.size
    · have h0 : 0 < s.size := by omega
      by_cases h45 : ((s[0].toNat : Int) == 45) = true
      · have H45 : Hid ((s[0].toNat : Int) = 45) := by show _ = _; simpa using h45
        go_enter Tryd.func35, Tryd.ntmps35
        go_wp2_with fail
        refine (final_any s 43 45 _ hs).mono ?_
        rintro e w' ⟨rfl, rfl⟩
        rw [unhide Hf1]
        go_wp2_with fail
        refine (final_any s 42 47 _ hs).mono ?_
        rintro e w' ⟨rfl, rfl⟩
        rw [unhide Hf2]
        go_wp2_with fail
        go_quiet (fail)
        go_wp2
        go_ret3
        exact ⟨_, _, _, rfl, cutV_neg s (unhide Hn) h1 (unhide H45), _, rfl⟩
      have h45' : ((s[0].toNat : Int) == 45) = false := by simpa using h45
      have H45 : Hid (¬ (s[0].toNat : Int) = 45) := by show ¬ _; simpa using h45
      clear h45
      by_cases h2 : 2 < s.size
      · by_cases h40 : ((s[0].toNat : Int) == 40) = true
        · have H40 : Hid ((s[0].toNat : Int) = 40) := by show _ = _; simpa using h40
          have ez : ((s.size : Int) - 1) = ((s.size - 1 : Nat) : Int) := by omega
          have Hez := hide ez
          clear ez
          go_enter Tryd.func35, Tryd.ntmps35
          go_wp2_with fail
          refine (final_any s 43 45 _ hs).mono ?_
          rintro e w' ⟨rfl, rfl⟩
          rw [unhide Hf1]
          go_wp2_with fail
          refine (final_any s 42 47 _ hs).mono ?_
          rintro e w' ⟨rfl, rfl⟩
          rw [unhide Hf2]
          go_wp2_with fail
          go_quiet (fail)
          go_wp2
          go_ret3
          exact ⟨_, _, _, rfl, cutV_par s (unhide Hn) h2 (unhide H40), _, rfl⟩
        · have h40' : ((s[0].toNat : Int) == 40) = false := by simpa using h40
          have H40 : Hid (¬ (s[0].toNat : Int) = 40) := by show ¬ _; simpa using h40
          clear h40
          go_enter Tryd.func35, Tryd.ntmps35
          go_wp2_with fail
          refine (final_any s 43 45 _ hs).mono ?_
          rintro e w' ⟨rfl, rfl⟩
          rw [unhide Hf1]
          go_wp2_with fail
          refine (final_any s 42 47 _ hs).mono ?_
          rintro e w' ⟨rfl, rfl⟩
          rw [unhide Hf2]
          go_wp2_with fail
          go_ret3
          exact ⟨_, _, _, rfl, cutV_not' s (unhide Hn) (fun ⟨_, _, h⟩ => unhide H45 h) (fun ⟨_, _, h⟩ => unhide H40 h), 0, rfl⟩
      · 
        go_enter Tryd.func35, Tryd.ntmps35
        go_wp2_with fail
        refine (final_any s 43 45 _ hs).mono ?_
        rintro e w' ⟨rfl, rfl⟩
        rw [unhide Hf1]
        go_wp2_with fail
        refine (final_any s 42 47 _ hs).mono ?_
        rintro e w' ⟨rfl, rfl⟩
        rw [unhide Hf2]
        go_wp2_with fail
        go_ret3
        exact ⟨_, _, _, rfl, cutV_not' s (unhide Hn) (fun ⟨_, _, h⟩ => unhide H45 h) (fun ⟨h, _, _⟩ => by omega), 0, rfl⟩
    · 
      go_enter Tryd.func35, Tryd.ntmps35
      go_wp2_with fail
      refine (final_any s 43 45 _ hs).mono ?_
      rintro e w' ⟨rfl, rfl⟩
      rw [unhide Hf1]
      go_wp2_with fail
      refine (final_any s 42 47 _ hs).mono ?_
      rintro e w' ⟨rfl, rfl⟩
      rw [unhide Hf2]
      go_wp2_with fail
      go_ret3
      exact ⟨_, _, _, rfl, cutV_not' s (unhide Hn) (fun ⟨h, _, _⟩ => by omega) (fun ⟨h, _, _⟩ => by omega), 0, rfl⟩
  · rw [if_neg hneg] at hi'
    subst hi'
    by_cases hpos : 0 < f1
    · obtain ⟨n, rfl⟩ := Int.eq_ofNat_of_zero_le (show 0 ≤ f1 by omega)
      have hn : n < s.size := by omega
      have hn1 : n + 1 ≤ s.size := by omega
      go_enter Tryd.func35, Tryd.ntmps35
      go_wp2_with fail
      refine (final_any s 43 45 _ hs).mono ?_
      rintro e w' ⟨rfl, rfl⟩
      rw [unhide Hf1]
      go_wp2_with fail
      go_quiet (fail)
      go_wp2
      go_ret3
      exact ⟨_, _, _, rfl, cutV_at s n (by omega) hn (unhide Hi), _, rfl⟩
    have Hn : Hid (cutAt (L s) ≤ 0) := by show _ ≤ _; rw [unhide Hi]; omega
    by_cases h1 : 1 < s.size
    · have h0 : 0 < s.size := by omega
      by_cases h45 : ((s[0].toNat : Int) == 45) = true
      · have H45 : Hid ((s[0].toNat : Int) = 45) := by show _ = _; simpa using h45
        go_enter Tryd.func35, Tryd.ntmps35
        go_wp2_with fail
        refine (final_any s 43 45 _ hs).mono ?_
        rintro e w' ⟨rfl, rfl⟩
        rw [unhide Hf1]
        go_wp2_with fail
        go_quiet (fail)
        go_wp2
        go_ret3
        exact ⟨_, _, _, rfl, cutV_neg s (unhide Hn) h1 (unhide H45), _, rfl⟩
      have h45' : ((s[0].toNat : Int) == 45) = false := by simpa using h45
      have H45 : Hid (¬ (s[0].toNat : Int) = 45) := by show ¬ _; simpa using h45
      clear h45
      by_cases h2 : 2 < s.size
      · by_cases h40 : ((s[0].toNat : Int) == 40) = true
        · have H40 : Hid ((s[0].toNat : Int) = 40) := by show _ = _; simpa using h40
          have ez : ((s.size : Int) - 1) = ((s.size - 1 : Nat) : Int) := by omega
          have Hez := hide ez
          clear ez
          go_enter Tryd.func35, Tryd.ntmps35
          go_wp2_with fail
          refine (final_any s 43 45 _ hs).mono ?_
          rintro e w' ⟨rfl, rfl⟩
          rw [unhide Hf1]
          go_wp2_with fail
          go_quiet (fail)
          go_wp2
          go_ret3
          exact ⟨_, _, _, rfl, cutV_par s (unhide Hn) h2 (unhide H40), _, rfl⟩
        · have h40' : ((s[0].toNat : Int) == 40) = false := by simpa using h40
          have H40 : Hid (¬ (s[0].toNat : Int) = 40) := by show ¬ _; simpa using h40
          clear h40
          go_enter Tryd.func35, Tryd.ntmps35
          go_wp2_with fail
          refine (final_any s 43 45 _ hs).mono ?_
          rintro e w' ⟨rfl, rfl⟩
          rw [unhide Hf1]
          go_wp2_with fail
          go_ret3
          exact ⟨_, _, _, rfl, cutV_not' s (unhide Hn) (fun ⟨_, _, h⟩ => unhide H45 h) (fun ⟨_, _, h⟩ => unhide H40 h), 0, rfl⟩
      · 
        go_enter Tryd.func35, Tryd.ntmps35
        go_wp2_with fail
        refine (final_any s 43 45 _ hs).mono ?_
        rintro e w' ⟨rfl, rfl⟩
        rw [unhide Hf1]
        go_wp2_with fail
        go_ret3
        exact ⟨_, _, _, rfl, cutV_not' s (unhide Hn) (fun ⟨_, _, h⟩ => unhide H45 h) (fun ⟨h, _, _⟩ => by omega), 0, rfl⟩
    · 
      go_enter Tryd.func35, Tryd.ntmps35
      go_wp2_with fail
      refine (final_any s 43 45 _ hs).mono ?_
      rintro e w' ⟨rfl, rfl⟩
      rw [unhide Hf1]
      go_wp2_with fail
      go_ret3
      exact ⟨_, _, _, rfl, cutV_not' s (unhide Hn) (fun ⟨h, _, _⟩ => by omega) (fun ⟨h, _, _⟩ => by omega), 0, rfl⟩

end Go.Proofs.YtdchbenfccofpaaDoor
namespace Go.RowKit

/-- Block b holds just these cells, none of them frozen. -/
def Blk (w : World) (b : Nat) (cs : Array Value) (T : TypeId) : Prop := w.heap[b]? = some (.cells cs T (0, 0))

theorem Blk.cell {w : World} {b : Nat} {cs : Array Value} {T : TypeId} (h : Blk w b cs T) (i : Nat) : w.cell? ⟨b, i, none⟩ = cs[i]? := by
  unfold Blk at h; simp [World.cell?, h]
theorem Blk.frozen {w : World} {b : Nat} {cs : Array Value} {T : TypeId} (h : Blk w b cs T) (i : Nat) : w.frozen? ⟨b, i, none⟩ = false := by
  unfold Blk at h; simp [World.frozen?, h]
theorem Blk.lt {w : World} {b : Nat} {cs : Array Value} {T : TypeId} (h : Blk w b cs T) : b < w.heap.size := (Array.getElem?_eq_some_iff.1 h).1
theorem Blk.set {w : World} {b : Nat} {cs : Array Value} {T : TypeId} (h : Blk w b cs T) (i : Nat) (v : Value) : Blk (w.setCell ⟨b, i, none⟩ v) b (cs.setIfInBounds i v) T := by
  unfold Blk at h ⊢; simp [World.setCell, Array.getElem?_modify, h]
theorem Blk.setOther {w : World} {b : Nat} {cs : Array Value} {T : TypeId} (h : Blk w b cs T) (a : Addr) (v : Value) (hn : b ≠ a.block) : Blk (w.setCell a v) b cs T := by
  unfold Blk at h ⊢; rw [Below.heap_setCell _ _ _ _ hn]; exact h
theorem Blk.alloc {w : World} {b : Nat} {cs : Array Value} {T : TypeId} (h : Blk w b cs T) (o : Obj) : Blk (w.alloc o) b cs T := by
  have hl := h.lt
  unfold Blk at h ⊢; rw [Below.heap_alloc _ _ _ hl]; exact h
theorem Blk.new (w : World) (cs : Array Value) (T : TypeId) : Blk (w.alloc (.cells cs T)) w.heap.size cs T := heap_alloc_new w _
theorem Blk.drewN {w : World} {b : Nat} {cs : Array Value} {T : TypeId} (h : Blk w b cs T) (n : Nat) : Blk (w.drewN n) b cs T := h
theorem Blk.below {w w' : World} {b B : Nat} {cs : Array Value} {T : TypeId} (h : Blk w b cs T) (hb : Below B w w') (hl : b < B) : Blk w' b cs T := by
  unfold Blk at h ⊢; rw [hb.block b hl]; exact h
theorem Blk.kept {w w' : World} {b : Nat} {cs : Array Value} {T : TypeId} (h : Blk w b cs T) (hb : Below w.heap.size w w') : Blk w' b cs T := h.below hb h.lt
theorem Blk.grown {w w' : World} {b : Nat} {cs : Array Value} {T : TypeId} {row : Option Nat} (h : Blk w b cs T) (hg : w.grownBy w' row) (hn : some b ≠ row) : Blk w' b cs T := by
  have hl := h.lt
  unfold Blk at h ⊢; rw [hg.block b hl hn]; exact h

theorem Below.drewN {B : Nat} {a w : World} (h : Below B a w) (n : Nat) : Below B a (w.drewN n) := ⟨h.os, h.tape, h.output, h.size, h.block⟩
theorem Below.undrew {B : Nat} {a w : World} (h : Below B a.drew w) : Below B a w := ⟨h.os, h.tape, h.output, h.size, h.block⟩
theorem Below.undrewN {B n : Nat} {a w : World} (h : Below B (a.drewN n) w) : Below B a w := ⟨h.os, h.tape, h.output, h.size, h.block⟩
/-- Two steps, each of which makes memory. -/
theorem Below.then {a b c : World} (h : Below a.heap.size a b) (k : Below b.heap.size b c) : Below a.heap.size a c := h.trans (k.mono h.size)
theorem Below.then' {B : Nat} {a b c : World} (h : Below B a b) (hB : B ≤ b.heap.size) (k : Below b.heap.size b c) : Below B a c := h.trans (k.mono hB)

/-- What is owned stays owned while new memory is made. -/
theorem ownsRow_below {w w' : World} {base : Nat} {e : TypeId} {size : Nat} {v : Value} {n : Nat} {xs : List Value} (h : w.ownsRow base e size v n xs) (hb : Below w.heap.size w w') : w'.ownsRow base e size v n xs := by
  refine ⟨h.1, ?_⟩
  rcases h.2 with hn | ⟨g, cap, cur, rfl, hbg, hgg, rest⟩
  · exact .inl hn
  · exact .inr ⟨g, cap, cur, rfl, hbg, by rw [hb.block g (Array.getElem?_eq_some_iff.1 hgg).1]; exact hgg, rest⟩

end Go.RowKit
namespace Db
theorem plc_step {a d o i : Int} {c : UInt8} {r : List UInt8} {a' d' o' : Int} (h : stepS a d o c.toNat = some (a', d', o')) : plc a d o i (c :: r) = plc a' d' o' (i + 1) r := by
  simp only [plc, h]
theorem plc_stop {a d o i : Int} {c : UInt8} {r : List UInt8} (h : stepS a d o c.toNat = none) : plc a d o i (c :: r) = i := by
  simp only [plc, h]
theorem stepS_ok {a d o c : Int} {n : Nat} {a' d' o' : Int} (h : okS a d o n) (hs : stepS a d o c = some (a', d', o')) : okS a' d' o' (n + 1) := by
  obtain ⟨h1, h2, h3, h4, h5, h6⟩ := h
  have key : ∀ x : Option (Int × Int × Int), x = some (a', d', o') → (∀ p, x = some p → okS p.1 p.2.1 p.2.2 (n + 1)) → okS a' d' o' (n + 1) := fun x hx hp => hp _ hx
  refine key _ hs ?_
  intro p hp
  unfold stepS at hp
  split at hp
  · unfold daysS at hp
    repeat' split at hp
    all_goals first | (cases hp; done) | (obtain rfl := Option.some.inj hp; refine ⟨?_, ?_, ?_, ?_, ?_, ?_⟩ <;> (try simp_all) <;> omega)
  · split at hp
    · unfold factS at hp
      repeat' split at hp
      all_goals first | (cases hp; done) | (obtain rfl := Option.some.inj hp; refine ⟨?_, ?_, ?_, ?_, ?_, ?_⟩ <;> (try simp_all) <;> omega)
    · unfold onwS at hp
      repeat' split at hp
      all_goals first | (cases hp; done) | (obtain rfl := Option.some.inj hp; refine ⟨?_, ?_, ?_, ?_, ?_, ?_⟩ <;> (try simp_all) <;> omega)
end Db
namespace Db

/-- The kind of what comes of an operation: 0 none, 1 money, 2 number. -/
def joinK (o a b : Int) : Int :=
  if a == 0 || b == 0 then 0
  else if o == 43 || o == 45 then (if a == b then a else 0)
  else if o == 42 && a == 1 && b == 1 then 0
  else if o == 42 && (a == 1 || b == 1) then 1
  else if o == 47 && a == 1 && b == 2 then 1
  else if o == 47 && a == 2 && b == 1 then 0
  else 2
theorem joinK_bd (o a b : Int) (ha : 0 ≤ a ∧ a ≤ 2) : 0 ≤ joinK o a b ∧ joinK o a b ≤ 2 := by
  unfold joinK; repeat' split
  all_goals omega

/-- A part: its sign, its number. (48: a number; 126: a - ahead.) -/
abbrev Pt := Int × Int
def opdB (s : Int) : Bool := s == 48 || selB s || oldB s
def leafK (rows : List Int) (p : Pt) : Int := if p.1 == 64 || p.1 == 33 then 1 else if oldB p.1 then rows.getD p.2.toNat 0 else 2
/-- The kinds on the pile. -/
def kEval (rows : List Int) : List Pt → List Int → List Int
  | [], st => st
  | p :: r, st => if opdB p.1 then kEval rows r (leafK rows p :: st) else if p.1 == 126 then kEval rows r st else
    match st with
    | y :: x :: t => kEval rows r (joinK p.1 x y :: t)
    | _ => st

/-- An operand and its part. -/
def Opnd (e : List UInt8) (ps : List Pt) : Prop :=
  (1 ≤ e.length ∧ e.length ≤ 18 ∧ (∀ c ∈ e, digB c.toNat = true) ∧ ps = [(48, val e)]) ∨
  ∃ c ds, e = c :: ds ∧ 1 ≤ ds.length ∧ (∀ x ∈ ds, digB x.toNat = true) ∧ ((selB c.toNat = true ∧ ds.length ≤ 2) ∨ (oldB c.toNat = true ∧ ds.length = 1)) ∧ ps = [((c.toNat : Int), val ds)]

/-- e, cut again and again, comes to these parts. -/
def Wf : Nat → List UInt8 → List Pt → Prop
  | 0, _, _ => False
  | n + 1, e, ps => (cut e = (0, [], e) ∧ Opnd e ps) ∨ ((cut e).1 = 40 ∧ Wf n (cut e).2.2 ps) ∨ ((cut e).1 = 126 ∧ ∃ p, Wf n (cut e).2.2 p ∧ ps = p ++ [(126, 0)]) ∨
      (opB (cut e).1 = true ∧ ∃ p q, Wf n (cut e).2.1 p ∧ Wf n (cut e).2.2 q ∧ ps = p ++ q ++ [((cut e).1, 0)])

/-- Names a row a row that is not ahead of it? -/
def rch (row : Int) : List UInt8 → Bool
  | [] => false
  | c :: r => (oldB c.toNat && (match r with | [] => false | d :: _ => decide (row ≤ (d.toNat : Int) - 48))) || rch row r
/-- Behind $ and < a digit stands. -/
def oldDig : List UInt8 → Prop
  | [] => True
  | c :: r => (oldB c.toNat = true → match r with | [] => True | d :: _ => digB d.toNat = true) ∧ oldDig r

/-- The up to two digits that a text begins with. -/
def dg2 (r : List UInt8) : List UInt8 := (r.take 2).takeWhile fun c => digB c.toNat
/-- Names a text an account of which q is true? -/
def strg (q : Int → Bool) : List UInt8 → Bool
  | [] => false
  | c :: r => (selB c.toNat && q (val (dg2 r))) || strg q r
def selq (q : Int → Bool) (ps : List Pt) : Bool := ps.any fun p => selB p.1 && q p.2
theorem strg_cons_not {q : Int → Bool} {c : UInt8} (r : List UInt8) (h : selB c.toNat = false) : strg q (c :: r) = strg q r := by simp [strg, h]
theorem selq_append (q : Int → Bool) (p r : List Pt) : selq q (p ++ r) = (selq q p || selq q r) := by simp [selq]
theorem selq_op (q : Int → Bool) (o : Int) (h : selB o = false) : selq q [(o, 0)] = false := by simp [selq, h]

theorem opd_op {o : Int} (h : opB o = true) : opdB o = false ∧ (o == 126) = false := by
  simp [opB] at h; rcases h with ((rfl | rfl) | rfl) | rfl <;> exact ⟨rfl, rfl⟩

theorem cut_le (l : List UInt8) : (cut l).2.1.length ≤ l.length ∧ (cut l).2.2.length ≤ l.length := by
  unfold cut
  split
  · exact ⟨by simp; omega, by simp⟩
  · split
    · exact ⟨by simp, by simp⟩
    · split
      · exact ⟨by simp, by simp; omega⟩
      · exact ⟨by simp, by simp⟩
theorem kEval_leaf (rows : List Int) (p : Pt) (q : List Pt) (st : List Int) (h : opdB p.1 = true) : kEval rows ([p] ++ q) st = kEval rows q (leafK rows p :: st) := by
  simp [kEval, h]
theorem kEval_neg (rows : List Int) (p q : List Pt) (k : Int) (h : ∀ q st, kEval rows (p ++ q) st = kEval rows q (k :: st)) (st : List Int) : kEval rows (p ++ [(126, 0)] ++ q) st = kEval rows q (k :: st) := by
  rw [List.append_assoc, h]; rfl
theorem kEval_bin (rows : List Int) (o : Int) (ho : opB o = true) (p q r : List Pt) (a b : Int) (hp : ∀ q st, kEval rows (p ++ q) st = kEval rows q (a :: st)) (hq : ∀ r st, kEval rows (q ++ r) st = kEval rows r (b :: st)) (st : List Int) :
    kEval rows (p ++ q ++ [(o, 0)] ++ r) st = kEval rows r (joinK o a b :: st) := by
  rw [List.append_assoc, List.append_assoc, hp, hq]
  have := opd_op ho
  simp [kEval, this.1, this.2]

end Db
namespace Go.Proofs.YtdchbenfccofpaaDoor
open Go.RowKit Db

/-- What a step of a spot answers. -/
def SpotR (r : Option (Int × Int × Int)) (e : Ending) : Prop :=
  ∃ a d o : Int, ∃ ok : Bool, e = .returned (.tuple #[.agg #[.int .i64 a, .int .i64 d, .int .i64 o], .bool ok]) ∧ r = if ok then some (a, d, o) else none

theorem beq_false_of {a b : Int} (h : ¬ a = b) : (a == b) = false := by simpa using h
theorem dig_ne {c : Int} (h : digB c = true) (b : Int) (hb : digB b = false) : (c == b) = false := by
  rw [beq_eq_false_iff_ne]; intro e; subst e; rw [h] at hb; cases hb
theorem sel_ne {c : Int} (h : selB c = true) (b : Int) (hb : selB b = false) : (c == b) = false := by
  rw [beq_eq_false_iff_ne]; intro e; subst e; rw [h] at hb; cases hb
theorem old_ne {c : Int} (h : oldB c = true) (b : Int) (hb : oldB b = false) : (c == b) = false := by
  rw [beq_eq_false_iff_ne]; intro e; subst e; rw [h] at hb; cases hb
theorem op_ne {c : Int} (h : opB c = true) (b : Int) (hb : opB b = false) : (c == b) = false := by
  rw [beq_eq_false_iff_ne]; intro e; subst e; rw [h] at hb; cases hb
theorem sel_dig {c : Int} (h : selB c = true) : digB c = false := by
  simp [selB] at h; rcases h with (rfl | rfl) | rfl <;> rfl
theorem old_dig {c : Int} (h : oldB c = true) : digB c = false := by
  simp [oldB] at h; rcases h with rfl | rfl <;> rfl
theorem old_sel {c : Int} (h : oldB c = true) : selB c = false := by
  simp [oldB] at h; rcases h with rfl | rfl <;> rfl
theorem op_dig {c : Int} (h : opB c = true) : digB c = false := by
  simp [opB] at h; rcases h with ((rfl | rfl) | rfl) | rfl <;> rfl

end Go.Proofs.YtdchbenfccofpaaDoor
namespace Go.Proofs.YtdchbenfccofpaaDoor
open Go.RowKit Db

set_option maxHeartbeats 1000000 in
theorem joined_any (o a b : Int) (w : World) (ho : opB o = true) (ha : 0 ≤ a ∧ a ≤ 2) (hb : 0 ≤ b ∧ b ≤ 2) :
    Calls Tryd.prog 63 #[.int .u8 o, .int .i64 a, .int .i64 b] w fun e w' => e = .returned (.int .i64 (joinK o a b)) ∧ w' = w := by
  simp [opB] at ho
  have ha' : a = 0 ∨ a = 1 ∨ a = 2 := by omega
  have hb' : b = 0 ∨ b = 1 ∨ b = 2 := by omega
  clear ha hb
  rcases ho with ((rfl | rfl) | rfl) | rfl <;> rcases ha' with rfl | rfl | rfl <;> rcases hb' with rfl | rfl | rfl
  all_goals
    go_enter Tryd.func63, Tryd.ntmps63
    go_wp2
    go_ret
    exact ⟨rfl, rfl⟩

theorem ret_bool {a b : Bool} (h : a = b) : Ending.returned (.bool a) = .returned (.bool b) := by rw [h]
theorem oldDig_at (s : ByteArray) (h : oldDig (L s)) : ∀ i (hi : i + 1 < s.size), oldB ((s[i]'(by omega)).toNat : Int) = true → digB (s[i + 1].toNat : Int) = true := by
  intro i hi
  have key : ∀ (l : List UInt8) (i : Nat), oldDig l → ∀ c d r, l.drop i = c :: d :: r → oldB c.toNat = true → digB d.toNat = true := by
    intro l
    induction l with
    | nil => intro i _ c d r e; simp at e
    | cons x t ih =>
      intro i ho c d r e hc
      cases i with
      | zero =>
        simp at e
        obtain ⟨rfl, rfl⟩ := e
        exact ho.1 hc
      | succ i => exact ih i ho.2 c d r (by simpa using e) hc
  exact key (L s) i h _ _ _ (by rw [L_drop s i (by omega), L_drop s (i + 1) hi])
theorem rch_step (s : ByteArray) (row : Int) (i : Nat) (h : i + 1 < s.size) : rch row ((L s).drop i) = ((oldB ((s[i]'(by omega)).toNat : Int) && decide (row ≤ (s[i + 1].toNat : Int) - 48)) || rch row ((L s).drop (i + 1))) := by
  rw [L_drop s i (by omega), L_drop s (i + 1) h]; rfl
theorem rch_end (s : ByteArray) (row : Int) (i : Nat) (h : s.size ≤ i + 1) : rch row ((L s).drop i) = false := by
  by_cases hi : i < s.size
  · rw [L_drop s i hi, L_drop_end s (i + 1) h]; simp [rch]
  · rw [L_drop_end s i (by omega)]; rfl

set_option maxHeartbeats 1000000 in
theorem reaches_any (s : ByteArray) (row : Int) (w : World) (hs : s.size ≤ 200) (hr : oldDig (L s)) :
    Calls Tryd.prog 31 #[.string s, .int .i64 row] w fun e w' => e = .returned (.bool (rch row (L s))) ∧ w' = w := by
  have Ho := hide (oldDig_at s hr)
  clear hr
  go_enter Tryd.func31, Tryd.ntmps31
  go_wp2
  go_loop [5] (fun i => ∃ k : Nat, k ≤ s.size ∧ i = .int .i64 k ∧ Hid (rch row ((L s).drop k) = rch row (L s))) (fun i => s.size - (intOf i).toNat)
  case atStart => exact ⟨0, Nat.zero_le _, rfl, hide rfl⟩
  case round =>
    obtain ⟨k, hk, rfl, Hu⟩ := hrel
    by_cases hlt : k + 1 < s.size
    · have Hst := hide (rch_step s row k hlt)
      by_cases ho : oldB (s[k].toNat : Int) = true
      · have hd := unhide Ho k hlt ho
        simp [digB] at hd
        obtain ⟨hd1, hd2⟩ := hd
        by_cases hge : row ≤ (s[k + 1].toNat : Int) - 48
        · have Hge := hide hge
          go_wp2_with (go_at_call 62; refine (older_any _ _).mono ?_; rintro e w' ⟨rfl, rfl⟩)
          go_ret
          exact ⟨by rw [← unhide Hu, unhide Hst, ho]; simp [unhide Hge], rfl⟩
        · have Hge := hide hge
          go_wp2_with (go_at_call 62; refine (older_any _ _).mono ?_; rintro e w' ⟨rfl, rfl⟩)
          go_round
          case rel => exact ⟨k + 1, by omega, by go_num, by show _ = _; rw [← unhide Hu, unhide Hst]; have := unhide Hge; simp; omega⟩
          case measure => simp [intOf]; omega
      · have ho' : oldB (s[k].toNat : Int) = false := by simpa using ho
        clear ho
        have Hst' : Hid (rch row ((L s).drop k) = rch row ((L s).drop (k + 1))) := by
          show _ = _
          rw [unhide Hst, ho']; simp
        go_wp2_with (go_at_call 62; refine (older_any _ _).mono ?_; rintro e w' ⟨rfl, rfl⟩)
        go_round
        case rel => exact ⟨k + 1, by omega, by go_num, by show _ = _; rw [← unhide Hu, unhide Hst']⟩
        case measure => simp [intOf]; omega
    · have Hend := hide (rch_end s row k (by omega))
      go_wp2
      go_ret
      exact ⟨ret_bool (by rw [← unhide Hu, unhide Hend]), rfl⟩

theorem size_of_L {s t : ByteArray} {l : List UInt8} (h : L t = l) (hl : l.length ≤ (L s).length) : t.size ≤ s.size := by
  rw [← L_length, ← L_length, h]; exact hl

theorem info_int : (Tryd.prog.info? 3).map (fun i => (i.zero, i.size, i.bytes)) = some (some (.int .i64 0), 1, 8) := by kernel_rfl

/-- What the kind of a row comes to. -/
def KindR (rows : List Int) (ps : List Pt) (k : Int) : Prop := 0 ≤ k ∧ k ≤ 2 ∧ ∀ q st, kEval rows (ps ++ q) st = kEval rows q (k :: st)

set_option maxHeartbeats 1000000 in
theorem kind_leaf (s : ByteArray) (ps : List Pt) (rows : List Int) (v : Value) (base : Nat) (w : World) (hs : s.size ≤ 200) (hcut : cut (L s) = (0, [], L s)) (hop : Opnd (L s) ps)
    (hn : ∀ p ∈ ps, oldB p.1 = true → p.2.toNat < rows.length) (hrows : ∀ x ∈ rows, 0 ≤ x ∧ x ≤ 2) (hown : w.ownsRow base 3 1 v rows.length (rows.map (.int .i64))) :
    Calls Tryd.prog 32 #[.string s, v] w fun e w' => ∃ k, e = .returned (.int .i64 k) ∧ KindR rows ps k ∧ ∃ m, w' = w.drewN m := by
  rcases hop with ⟨h1, h18, hdig, rfl⟩ | ⟨c, ds, he, h1, hdig, hsel, rfl⟩
  · -- a number
    have hz : 0 < s.size := by rw [← L_length]; omega
    have hd0 : digB (s[0].toNat : Int) = true := hdig _ (by rw [← L_get s 0 hz]; exact List.getElem_mem _)
    have Hk : Hid (KindR rows [(48, val (L s))] 2) := ⟨by omega, by omega, fun q st => kEval_leaf rows (48, val (L s)) q st rfl⟩
    have Hcut := hide hcut
    have n64 := dig_ne hd0 64 rfl
    have n33 := dig_ne hd0 33 rfl
    have n36 := dig_ne hd0 36 rfl
    have n60 := dig_ne hd0 60 rfl
    clear hcut h1 h18 hdig hn hrows hown hd0
    go_enter Tryd.func32, Tryd.ntmps32
    go_wp2_with fail
    refine (cut_any s _ hs).mono ?_
    rintro e w1 ⟨o, l, r, rfl, ⟨hco, hcl, hcr⟩, m, rfl⟩
    rw [unhide Hcut] at hco hcl hcr
    obtain rfl : r = s := L_inj hcr
    subst hco
    clear hcl hcr
    go_wp2_with fail
    go_ret
    exact ⟨2, rfl, unhide Hk, _, rfl⟩
  · have hz : 0 < s.size := by rw [← L_length, he]; simp
    have hc0 : s[0] = c := by
      have e1 := L_get? s 0 hz
      rw [he] at e1
      simpa using e1.symm
    have Hcut := hide hcut
    clear hcut
    rcases hsel with ⟨hsel, hds⟩ | ⟨hold, hds⟩
    · have hc : c.toNat = 64 ∨ c.toNat = 33 ∨ c.toNat = 35 := by simp [selB] at hsel; omega
      rcases hc with hc | hc | hc
      · have hx : (s[0].toNat : Int) = 64 := by rw [hc0]; omega
        have Hk : Hid (KindR rows [((c.toNat : Int), val ds)] 1) := by
          refine ⟨by omega, by omega, fun q st => ?_⟩
          rw [kEval_leaf rows _ q st (by show opdB (c.toNat : Int) = true; rw [hc]; rfl)]
          simp [leafK, hc]
        clear hn hrows hown hsel hds he hdig h1 hc hc0
        go_enter Tryd.func32, Tryd.ntmps32
        go_wp2_with fail
        refine (cut_any s _ hs).mono ?_
        rintro e w1 ⟨o, l, r, rfl, ⟨hco, hcl, hcr⟩, m, rfl⟩
        rw [unhide Hcut] at hco hcl hcr
        obtain rfl : r = s := L_inj hcr
        subst hco
        clear hcl hcr
        go_wp2_with fail
        go_ret
        exact ⟨1, rfl, unhide Hk, _, rfl⟩
      · have hx : (s[0].toNat : Int) = 33 := by rw [hc0]; omega
        have Hk : Hid (KindR rows [((c.toNat : Int), val ds)] 1) := by
          refine ⟨by omega, by omega, fun q st => ?_⟩
          rw [kEval_leaf rows _ q st (by show opdB (c.toNat : Int) = true; rw [hc]; rfl)]
          simp [leafK, hc]
        clear hn hrows hown hsel hds he hdig h1 hc hc0
        go_enter Tryd.func32, Tryd.ntmps32
        go_wp2_with fail
        refine (cut_any s _ hs).mono ?_
        rintro e w1 ⟨o, l, r, rfl, ⟨hco, hcl, hcr⟩, m, rfl⟩
        rw [unhide Hcut] at hco hcl hcr
        obtain rfl : r = s := L_inj hcr
        subst hco
        clear hcl hcr
        go_wp2_with fail
        go_ret
        exact ⟨1, rfl, unhide Hk, _, rfl⟩
      · have hx : (s[0].toNat : Int) = 35 := by rw [hc0]; omega
        have Hk : Hid (KindR rows [((c.toNat : Int), val ds)] 2) := by
          refine ⟨by omega, by omega, fun q st => ?_⟩
          rw [kEval_leaf rows _ q st (by show opdB (c.toNat : Int) = true; rw [hc]; rfl)]
          simp [leafK, hc, oldB]
        clear hn hrows hown hsel hds he hdig h1 hc hc0
        go_enter Tryd.func32, Tryd.ntmps32
        go_wp2_with fail
        refine (cut_any s _ hs).mono ?_
        rintro e w1 ⟨o, l, r, rfl, ⟨hco, hcl, hcr⟩, m, rfl⟩
        rw [unhide Hcut] at hco hcl hcr
        obtain rfl : r = s := L_inj hcr
        subst hco
        clear hcl hcr
        go_wp2_with fail
        go_ret
        exact ⟨2, rfl, unhide Hk, _, rfl⟩
    · obtain ⟨x, rfl⟩ : ∃ x, ds = [x] := List.length_eq_one_iff.1 hds
      have hz1 : 1 < s.size := by rw [← L_length, he]; simp
      have hx1 : s[1] = x := by
        have e1 := L_get? s 1 hz1
        rw [he] at e1
        simpa using e1.symm
      have hxd := hdig x (by simp)
      rw [← hx1] at hxd
      simp [digB] at hxd
      obtain ⟨hx48, hx57⟩ := hxd
      have hxv : val [x] = (s[1].toNat : Int) - 48 := by rw [hx1]; simp [val, valGo]
      have hi : ((s[1].toNat : Int) - (48 : Int)).toNat = s[1].toNat - 48 := by omega
      have hlt : s[1].toNat - 48 < rows.length := by
        have := hn _ (List.mem_singleton.2 rfl) hold
        simp only at this
        rw [hxv, hi] at this
        exact this
      obtain ⟨k, hk⟩ : ∃ k, rows[s[1].toNat - 48]? = some k := ⟨rows[s[1].toNat - 48], List.getElem?_eq_getElem hlt⟩
      have hkm := hrows k (List.mem_of_getElem? hk)
      have Hk : Hid (KindR rows [((c.toNat : Int), val [x])] k) := by
        refine ⟨hkm.1, hkm.2, fun q st => ?_⟩
        rw [kEval_leaf rows _ q st (by show opdB (c.toNat : Int) = true; unfold opdB; rw [hold]; simp)]
        unfold leafK
        have h64 : ((c.toNat : Int) == 64 || (c.toNat : Int) == 33) = false := by rw [old_ne hold 64 rfl, old_ne hold 33 rfl]; rfl
        rw [h64, hold]
        simp [hxv, hi, hk]
      rcases hown.2 with ⟨_, h0⟩ | ⟨g, cap, cur, rfl, hbg, hgg, hcap, hcm, hcs, htk⟩
      · omega
      have hcell := hown.cells (g := g) rfl (s[1].toNat - 48) (.int .i64 k) (by rw [List.getElem?_map, hk]; rfl)
      rw [Addr.add_lit] at hcell
      simp only [Nat.zero_add] at hcell
      have hlen : rows.length ≤ maxLen := Nat.le_trans hcap hcm
      unfold maxLen at hlen
      obtain ⟨nn, hnn⟩ : ∃ nn, rows.length = nn := ⟨_, rfl⟩
      rw [hnn] at hlt hlen ⊢
      have hlt' : (s[1].toNat : Int) - 48 < nn := by omega
      have hcc : (s[0].toNat : Int) = 36 ∨ (s[0].toNat : Int) = 60 := by rw [hc0]; simp [oldB] at hold; omega
      clear hn hrows hown hds he hdig h1 hold hc0 hx1 hxv hi hk hkm hgg hcs htk hcap hcm hbg hnn
      rcases hcc with hx | hx
      · 
        go_enter Tryd.func32, Tryd.ntmps32
        go_wp2_with fail
        refine (cut_any s _ hs).mono ?_
        rintro e w1 ⟨o, l, r, rfl, ⟨hco, hcl, hcr⟩, m, rfl⟩
        rw [unhide Hcut] at hco hcl hcr
        obtain rfl : r = s := L_inj hcr
        subst hco
        clear hcl hcr
        go_wp2_with fail
        go_ret
        exact ⟨k, rfl, unhide Hk, _, rfl⟩
      · 
        go_enter Tryd.func32, Tryd.ntmps32
        go_wp2_with fail
        refine (cut_any s _ hs).mono ?_
        rintro e w1 ⟨o, l, r, rfl, ⟨hco, hcl, hcr⟩, m, rfl⟩
        rw [unhide Hcut] at hco hcl hcr
        obtain rfl : r = s := L_inj hcr
        subst hco
        clear hcl hcr
        go_wp2_with fail
        go_ret
        exact ⟨k, rfl, unhide Hk, _, rfl⟩

/-- The contract of kind, at depth n. -/
def KindC (n : Nat) : Prop := ∀ (s : ByteArray) (ps : List Pt) (rows : List Int) (v : Value) (base : Nat) (w : World), s.size ≤ 200 → Wf n (L s) ps →
    (∀ p ∈ ps, oldB p.1 = true → p.2.toNat < rows.length) → (∀ x ∈ rows, 0 ≤ x ∧ x ≤ 2) → w.ownsRow base 3 1 v rows.length (rows.map (.int .i64)) →
    Calls Tryd.prog 32 #[.string s, v] w fun e w' => ∃ k, e = .returned (.int .i64 k) ∧ KindR rows ps k ∧ ∃ m, w' = w.drewN m

theorem KindR.neg {rows : List Int} {p : List Pt} {k : Int} (h : KindR rows p k) : KindR rows (p ++ [(126, 0)]) k :=
  ⟨h.1, h.2.1, fun q st => kEval_neg rows p q k h.2.2 st⟩
theorem KindR.bin {rows : List Int} {o : Int} (ho : opB o = true) {p q : List Pt} {a b : Int} (hp : KindR rows p a) (hq : KindR rows q b) : KindR rows (p ++ q ++ [(o, 0)]) (joinK o a b) :=
  ⟨(joinK_bd o a b ⟨hp.1, hp.2.1⟩).1, (joinK_bd o a b ⟨hp.1, hp.2.1⟩).2, fun r st => kEval_bin rows o ho p q r a b hp.2.2 hq.2.2 st⟩

set_option maxHeartbeats 1000000 in
theorem kind_one (n : Nat) (ih : KindC n) (s : ByteArray) (ps p : List Pt) (rows : List Int) (v : Value) (base : Nat) (w : World) (hs : s.size ≤ 200) (ho : (cut (L s)).1 = 40 ∨ (cut (L s)).1 = 126) (hw : Wf n (cut (L s)).2.2 p)
    (hn : ∀ x ∈ p, oldB x.1 = true → x.2.toNat < rows.length) (hrows : ∀ x ∈ rows, 0 ≤ x ∧ x ≤ 2) (hown : w.ownsRow base 3 1 v rows.length (rows.map (.int .i64))) (hps : ∀ k, KindR rows p k → KindR rows ps k) :
    Calls Tryd.prog 32 #[.string s, v] w fun e w' => ∃ k, e = .returned (.int .i64 k) ∧ KindR rows ps k ∧ ∃ m, w' = w.drewN m := by
  have Hih := hide ih
  have Hw := hide hw
  have Hn := hide hn
  have Hrows := hide hrows
  have Hown := hide hown
  have Hps := hide hps
  have Ho := hide ho
  clear ih hw hn hrows hown hps ho
  go_enter Tryd.func32, Tryd.ntmps32
  go_wp2_with fail
  refine (cut_any s _ hs).mono ?_
  rintro e w1 ⟨o, l, r, rfl, ⟨hco, hcl, hcr⟩, m, rfl⟩
  have ho := unhide Ho
  rw [hco] at ho
  have Hr : Hid (Wf n (L r) p) := by show Wf _ _ _; rw [hcr]; exact unhide Hw
  have hrs : r.size ≤ 200 := Nat.le_trans (size_of_L hcr (cut_le (L s)).2) hs
  clear hco hcl hcr Ho Hw
  rcases ho with rfl | rfl
  all_goals
    go_wp2_with fail
    refine (unhide Hih r p rows v base _ hrs (unhide Hr) (unhide Hn) (unhide Hrows) (by exact unhide Hown)).mono ?_
    rintro e w2 ⟨k, rfl, hk, m2, rfl⟩
    have Hk := hide (unhide Hps k hk)
    clear hk
    go_wp2_with fail
    go_ret
    exact ⟨k, rfl, unhide Hk, m + m2, by simp [World.drewN]⟩

set_option maxHeartbeats 1000000 in
theorem kind_two (n : Nat) (ih : KindC n) (s : ByteArray) (p q : List Pt) (rows : List Int) (v : Value) (base : Nat) (w : World) (hs : s.size ≤ 200) (ho : opB (cut (L s)).1 = true) (hp : Wf n (cut (L s)).2.1 p) (hq : Wf n (cut (L s)).2.2 q)
    (hnp : ∀ x ∈ p, oldB x.1 = true → x.2.toNat < rows.length) (hnq : ∀ x ∈ q, oldB x.1 = true → x.2.toNat < rows.length) (hrows : ∀ x ∈ rows, 0 ≤ x ∧ x ≤ 2) (hown : w.ownsRow base 3 1 v rows.length (rows.map (.int .i64))) :
    Calls Tryd.prog 32 #[.string s, v] w fun e w' => ∃ k, e = .returned (.int .i64 k) ∧ KindR rows (p ++ q ++ [((cut (L s)).1, 0)]) k ∧ ∃ m, w' = w.drewN m := by
  have Hih := hide ih
  have Hp := hide hp
  have Hq := hide hq
  have Hnp := hide hnp
  have Hnq := hide hnq
  have Hrows := hide hrows
  have Hown := hide hown
  have Ho := hide ho
  clear ih hp hq hnp hnq hrows hown ho
  obtain ⟨oo, hoo⟩ : ∃ oo, (cut (L s)).1 = oo := ⟨_, rfl⟩
  rw [hoo]
  have Hoo := hide hoo
  clear hoo
  go_enter Tryd.func32, Tryd.ntmps32
  go_wp2_with fail
  refine (cut_any s _ hs).mono ?_
  rintro e w1 ⟨o, l, r, rfl, ⟨hco, hcl, hcr⟩, m, rfl⟩
  have ho := unhide Ho
  rw [hco] at ho
  obtain rfl : oo = o := (unhide Hoo).symm.trans hco
  have Hl : Hid (Wf n (L l) p) := by show Wf _ _ _; rw [hcl]; exact unhide Hp
  have Hr : Hid (Wf n (L r) q) := by show Wf _ _ _; rw [hcr]; exact unhide Hq
  have hls : l.size ≤ 200 := Nat.le_trans (size_of_L hcl (cut_le (L s)).1) hs
  have hrs : r.size ≤ 200 := Nat.le_trans (size_of_L hcr (cut_le (L s)).2) hs
  have n40 := op_ne ho 40 rfl
  have n126 := op_ne ho 126 rfl
  have n0 : (oo != 0) = true := by simp [bne, op_ne ho 0 rfl]
  have Hoq := hide ho
  clear hco hcl hcr Ho Hp Hq ho
  go_wp2_with fail
  refine (unhide Hih l p rows v base _ hls (unhide Hl) (unhide Hnp) (unhide Hrows) (by exact unhide Hown)).mono ?_
  rintro e w2 ⟨k, rfl, hk, m2, rfl⟩
  have hk0 := hk.1
  have hk1 := hk.2.1
  have Hk := hide hk
  clear hk
  go_wp2_with fail
  refine (unhide Hih r q rows v base _ hrs (unhide Hr) (unhide Hnq) (unhide Hrows) (by exact unhide Hown)).mono ?_
  rintro e w2 ⟨k2, rfl, hk, m3, rfl⟩
  have hk20 := hk.1
  have hk21 := hk.2.1
  have Hk2 := hide hk
  clear hk
  go_wp2_with fail
  refine (joined_any oo k k2 _ (unhide Hoq) ⟨hk0, hk1⟩ ⟨hk20, hk21⟩).mono ?_
  rintro e w2 ⟨rfl, rfl⟩
  have Hj := hide ((unhide Hk).bin (unhide Hoq) (unhide Hk2))
  go_wp2_with fail
  go_ret
  exact ⟨_, rfl, unhide Hj, m + m2 + m3, by simp [World.drewN, Nat.add_assoc]⟩

theorem kind_any (n : Nat) : KindC n := by
  induction n with
  | zero => intro s ps rows v base w hs hw; exact absurd hw (by simp [Wf])
  | succ n ih =>
    intro s ps rows v base w hs hw hn hrows hown
    rcases hw with ⟨hc, hop⟩ | ⟨hc, hw⟩ | ⟨hc, p, hw, rfl⟩ | ⟨hc, p, q, hp, hq, rfl⟩
    · exact kind_leaf s ps rows v base w hs hc hop hn hrows hown
    · exact kind_one n ih s ps ps rows v base w hs (.inl hc) hw hn hrows hown (fun _ h => h)
    · exact kind_one n ih s _ p rows v base w hs (.inr hc) hw (fun x hx => hn x (by simp [hx])) hrows hown (fun _ h => h.neg)
    · exact kind_two n ih s p q rows v base w hs hc hp hq (fun x hx => hn x (by simp [hx])) (fun x hx => hn x (by simp [hx])) hrows hown

end Go.Proofs.YtdchbenfccofpaaDoor
namespace Db

theorem splitGo_plain (c : UInt8) (a : List UInt8) (h : ∀ x ∈ a, x ≠ c) : ∀ acc cur r, splitGo c acc cur (a ++ r) = splitGo c acc (cur ++ a) r := by
  induction a with
  | nil => intro acc cur r; simp
  | cons x t ih =>
    intro acc cur r
    simp only [List.cons_append, splitGo]
    rw [if_neg (h x (by simp)), ih (fun y hy => h y (by simp [hy]))]
    simp
theorem splitGo_acc (c : UInt8) (l : List UInt8) : ∀ acc cur, splitGo c acc cur l = acc ++ splitGo c [] cur l := by
  induction l with
  | nil => intro acc cur; simp [splitGo]
  | cons x t ih =>
    intro acc cur
    simp only [splitGo]
    split
    · rw [ih, ih ([] ++ [cur])]; simp
    · exact ih _ _
theorem split_one (c : UInt8) (a : List UInt8) (h : ∀ x ∈ a, x ≠ c) : split a c = [a] := by
  have := splitGo_plain c a h [] [] []
  simp only [List.append_nil, List.nil_append] at this
  unfold split; rw [this]; rfl
theorem split_cons (c : UInt8) (a r : List UInt8) (h : ∀ x ∈ a, x ≠ c) : split (a ++ c :: r) c = a :: split r c := by
  unfold split
  rw [splitGo_plain c a h]
  simp only [splitGo, if_true, List.nil_append]
  rw [splitGo_acc]; rfl
theorem split_two (c : UInt8) (a b : List UInt8) (ha : ∀ x ∈ a, x ≠ c) (hb : ∀ x ∈ b, x ≠ c) : split (a ++ c :: b) c = [a, b] := by
  rw [split_cons c a b ha, split_one c b hb]
theorem splitGo_le (c : UInt8) (l : List UInt8) : ∀ acc cur (m : Nat), (∀ p ∈ acc, p.length ≤ m) → cur.length + l.length ≤ m → (∀ p ∈ splitGo c acc cur l, p.length ≤ m) := by
  induction l with
  | nil =>
    intro acc cur m ha hc p hp
    simp [splitGo] at hp
    rcases hp with hp | rfl
    · exact ha p hp
    · simpa using hc
  | cons x t ih =>
    intro acc cur m ha hc
    simp only [splitGo]
    simp only [List.length_cons] at hc
    split
    · refine ih _ _ m ?_ (by simp; omega)
      intro p hp
      simp at hp
      rcases hp with hp | rfl
      · exact ha p hp
      · omega
    · exact ih _ _ m ha (by simp; omega)
theorem split_le (l : List UInt8) (c : UInt8) : ∀ p ∈ split l c, p.length ≤ l.length := splitGo_le c l [] [] l.length (by simp) (by simp)
theorem splitGo_len (c : UInt8) (l : List UInt8) : ∀ acc cur, (splitGo c acc cur l).length ≤ acc.length + l.length + 1 := by
  induction l with
  | nil => intro acc cur; simp [splitGo]
  | cons x t ih =>
    intro acc cur
    simp only [splitGo]
    split
    · have := ih (acc ++ [cur]) []
      simp at this ⊢; omega
    · have := ih acc (cur ++ [x])
      simp at this ⊢; omega
theorem split_len (l : List UInt8) (c : UInt8) : (split l c).length ≤ l.length + 1 := by
  have := splitGo_len c l [] []
  unfold split; simpa using this

/-- The digits of a day. -/
def dayS (d : List UInt8) : Prop := 1 ≤ d.length ∧ d.length ≤ 3 ∧ ∀ c ∈ d, digB c.toNat = true
theorem dayS_ne {d : List UInt8} (h : dayS d) (c : UInt8) (hc : digB c.toNat = false) : ∀ x ∈ d, x ≠ c := by
  intro x hx e
  subst e
  rw [h.2.2 x hx] at hc
  cases hc
/-- A report by its form, without its blanks: periods, rows. -/
structure Sht (l : List UInt8) (pd : List (List UInt8 × List UInt8)) (rows : List (List UInt8)) : Prop where
  parts : ∃ x y, split (bare l) 124 = [x, y] ∧ split x 44 = pd.map (fun p => p.1 ++ 45 :: p.2) ∧ split y 59 = rows
  days : ∀ p ∈ pd, dayS p.1 ∧ dayS p.2

end Db
namespace Db

/-- The first period that ends ahead of its beginning; -1: none. -/
def badP (i : Int) : List (Int × Int) → Int
  | [] => -1
  | p :: r => if p.2 < p.1 then i else badP (i + 1) r
/-- Names a row, by its parts, one that is not ahead of it? -/
def nameB (row : Int) (ps : List Pt) : Bool := ps.any fun p => oldB p.1 && decide (row ≤ p.2)
def badN (i : Int) : List (List Pt) → Int
  | [] => -1
  | ps :: r => if nameB i ps then i else badN (i + 1) r
/-- The kind of a row by its parts. -/
def kindP (kinds : List Int) (ps : List Pt) : Int := (kEval kinds ps []).headD 0
def badK (i : Int) (kinds : List Int) : List (List Pt) → Int
  | [] => -1
  | ps :: r => if kindP kinds ps == 0 then i else badK (i + 1) (kinds ++ [kindP kinds ps]) r
/-- The error and the place. -/
def outc (pd : List (Int × Int)) (pss : List (List Pt)) : Int × Int :=
  if 4 < pd.length ∨ 8 < pss.length then (3, 0)
  else if 0 ≤ badP 0 pd then (4, badP 0 pd)
  else if 0 ≤ badN 0 pss then (5, badN 0 pss)
  else if 0 ≤ badK 0 [] pss then (6, badK 0 [] pss)
  else (0, 0)

/-- A row as a text, and its parts. -/
structure RowOk (e : List UInt8) (ps : List Pt) : Prop where
  wf : ∃ n, Wf n e ps
  old : oldDig e
  rch : ∀ row, rch row e = nameB row ps
  sel : ∀ q, strg q e = selq q ps
  len : e.length ≤ 200
  pos : ∀ p ∈ ps, 0 ≤ p.2
/-- A report by its form: its periods' digits, its rows, their parts. -/
structure Form (l : List UInt8) (pd : List (List UInt8 × List UInt8)) (rows : List (List UInt8)) (pss : List (List Pt)) : Prop where
  plc : plc 0 0 0 0 l = -1
  sht : Sht l pd rows
  len : rows.length = pss.length
  row : ∀ (i : Nat) e ps, rows[i]? = some e → pss[i]? = some ps → RowOk e ps
def pdv (pd : List (List UInt8 × List UInt8)) : List (Int × Int) := pd.map fun p => (val p.1, val p.2)

theorem badP_step {i : Nat} {pd : List (Int × Int)} {p : Int × Int} (h : pd[i]? = some p) : badP i (pd.drop i) = if p.2 < p.1 then (i : Int) else badP ((i + 1 : Nat) : Int) (pd.drop (i + 1)) := by
  obtain ⟨hi, rfl⟩ := List.getElem?_eq_some_iff.1 h
  rw [List.drop_eq_getElem_cons hi]; rfl
theorem badN_step {i : Nat} {pss : List (List Pt)} {p : List Pt} (h : pss[i]? = some p) : badN i (pss.drop i) = if nameB i p then (i : Int) else badN ((i + 1 : Nat) : Int) (pss.drop (i + 1)) := by
  obtain ⟨hi, rfl⟩ := List.getElem?_eq_some_iff.1 h
  rw [List.drop_eq_getElem_cons hi]; rfl
theorem badK_step {i : Nat} {pss : List (List Pt)} {p : List Pt} (kinds : List Int) (h : pss[i]? = some p) : badK i kinds (pss.drop i) = if kindP kinds p == 0 then (i : Int) else badK ((i + 1 : Nat) : Int) (kinds ++ [kindP kinds p]) (pss.drop (i + 1)) := by
  obtain ⟨hi, rfl⟩ := List.getElem?_eq_some_iff.1 h
  rw [List.drop_eq_getElem_cons hi]; rfl
/-- No name reaches too far: each row's names are ahead of it. -/
theorem badN_all (pss : List (List Pt)) : ∀ i : Int, 0 ≤ i → badN i pss < 0 → ∀ (j : Nat) ps, pss[j]? = some ps → nameB (i + j) ps = false := by
  induction pss with
  | nil => intro i _ _ j ps h; simp at h
  | cons x t ih =>
    intro i hi hb j ps h
    unfold badN at hb
    split at hb
    · omega
    · rename_i hx
      cases j with
      | zero => simp at h; subst h; simpa using hx
      | succ j =>
        have := ih (i + 1) (by omega) hb j ps (by simpa using h)
        rw [show i + ((j + 1 : Nat) : Int) = i + 1 + j by omega]
        exact this
theorem kindP_of {kinds : List Int} {ps : List Pt} {k : Int} (h : ∀ q st, kEval kinds (ps ++ q) st = kEval kinds q (k :: st)) : kindP kinds ps = k := by
  have := h [] []
  rw [List.append_nil] at this
  unfold kindP; rw [this]; rfl
theorem nameB_lt {row : Int} {ps : List Pt} (h : nameB row ps = false) (hp : ∀ p ∈ ps, 0 ≤ p.2) (n : Nat) (hn : row = n) : ∀ p ∈ ps, oldB p.1 = true → p.2.toNat < n := by
  intro p hp1 ho
  unfold nameB at h
  rw [List.any_eq_false] at h
  have := h p hp1
  simp [ho] at this
  have := hp p hp1
  omega

end Db
namespace Db

def hd : List UInt8 → Int
  | [] => 0
  | c :: _ => c.toNat
def Blanks (x : List UInt8) : Prop := ∀ c ∈ x, c.toNat = 32
theorem bare_blanks {x : List UInt8} (h : Blanks x) : bare x = [] := by
  unfold bare; rw [List.filter_eq_nil_iff]; intro c hc; simp [h c hc]

/-- Alike but for the digits, where these do not count. -/
def simD : Option (Int × Int × Int) → Option (Int × Int × Int) → Prop
  | none, none => True
  | some p, some q => p.1 = q.1 ∧ p.2.2 = q.2.2 ∧ (p.2.1 = q.2.1 ∨ p.1 = 6 ∨ p.1 = 8 ∨ p.1 = 9 ∨ p.1 = 10 ∨ p.1 = 11)
  | _, _ => False

/-- How many digits have been read does not count outside of days and numbers. -/
theorem plc_d (l : List UInt8) : ∀ (a d d' o i : Int), (a = 6 ∨ a = 8 ∨ a = 9 ∨ a = 10 ∨ a = 11) → plc a d o i l = plc a d' o i l := by
  induction l with
  | nil => intro a d d' o i _; rfl
  | cons c r ih =>
    intro a d d' o i ha
    have key : ∀ x y : Option (Int × Int × Int), simD x y →
        (match x with | none => i | some (a', d', o') => plc a' d' o' (i + 1) r) = (match y with | none => i | some (a', d', o') => plc a' d' o' (i + 1) r) := by
      intro x y h
      match x, y, h with
      | none, none, _ => rfl
      | some (a1, e1, o1), some (a2, e2, o2), ⟨h1, h2, h3⟩ =>
        simp only at h1 h2 h3 ⊢
        subst h1 h2
        rcases h3 with h3 | h3
        · rw [h3]
        · exact ih _ _ _ _ _ h3
    show (match stepS a d o c.toNat with | none => i | some (a', d', o') => plc a' d' o' (i + 1) r) = (match stepS a d' o c.toNat with | none => i | some (a', d', o') => plc a' d' o' (i + 1) r)
    apply key
    rcases ha with rfl | rfl | rfl | rfl | rfl
    · unfold stepS factS
      simp only [show ¬ (6 : Int) < 6 by omega, if_false]
      cases h1 : ((c.toNat : Int) == 32 || (c.toNat : Int) == 45) <;> cases h2 : ((c.toNat : Int) == 40) <;> cases h3 : digB c.toNat <;> cases h4 : selB c.toNat <;> cases h5 : oldB c.toNat <;> simp [simD]
    · unfold stepS factS
      simp only [show ¬ (8 : Int) < 6 by omega, if_false]
      cases h3 : digB c.toNat <;> simp [simD]
    · unfold stepS factS
      simp only [show ¬ (9 : Int) < 6 by omega, if_false]
      cases h3 : digB c.toNat <;> simp [simD]
    · unfold stepS onwS
      simp only [show ¬ (10 : Int) < 6 by omega, if_false]
      cases h1 : ((c.toNat : Int) == 32) <;> cases h3 : digB c.toNat <;> cases h4 : opB c.toNat <;> cases h5 : ((c.toNat : Int) == 59 && o == 0) <;> cases h7 : ((c.toNat : Int) == 41 && decide (0 < o)) <;> simp [simD]
    · unfold stepS onwS
      simp only [show ¬ (11 : Int) < 6 by omega, if_false]
      cases h1 : ((c.toNat : Int) == 32) <;> cases h4 : opB c.toNat <;> cases h5 : ((c.toNat : Int) == 59 && o == 0) <;> cases h7 : ((c.toNat : Int) == 41 && decide (0 < o)) <;> simp [simD]

theorem stepS_lt {a d o c : Int} (h : a < 6) : stepS a d o c = daysS a d o c := by unfold stepS; rw [if_pos h]
theorem stepS6 (d o c : Int) : stepS 6 d o c = factS 6 d o c := rfl
theorem stepS8 (d o c : Int) : stepS 8 d o c = factS 8 d o c := rfl
theorem stepS9 (d o c : Int) : stepS 9 d o c = factS 9 d o c := rfl
theorem stepS7 (d o c : Int) : stepS 7 d o c = onwS 7 d o c := rfl
theorem stepS10 (d o c : Int) : stepS 10 d o c = onwS 10 d o c := rfl
theorem stepS11 (d o c : Int) : stepS 11 d o c = onwS 11 d o c := rfl

/-- Blanks change nothing where the spot is between two things. -/
theorem plc_skip (a : Int) (ha : a = 0 ∨ a = 2 ∨ a = 3 ∨ a = 5 ∨ a = 6 ∨ a = 11) (x : List UInt8) (hx : Blanks x) : ∀ d o i r, plc a d o i (x ++ r) = plc a d o (i + x.length) r := by
  induction x with
  | nil => intro d o i r; simp
  | cons c t ih =>
    intro d o i r
    have hc : (c.toNat : Int) = 32 := by have := hx c (by simp); omega
    have hst : stepS a d o c.toNat = some (a, d, o) := by
      rw [hc]
      rcases ha with rfl | rfl | rfl | rfl | rfl | rfl <;> rfl
    rw [List.cons_append, plc_step hst, ih (fun y hy => hx y (by simp [hy]))]
    congr 1
    simp; omega
/-- Behind a complete operand a blank ends it. -/
theorem plc_skip' (a : Int) (ha : a = 7 ∨ a = 10 ∨ a = 11) (x : List UInt8) (hx : Blanks x) (hn : x ≠ []) (d o i : Int) (r : List UInt8) : plc a d o i (x ++ r) = plc 11 0 o (i + x.length) r := by
  match x, hn with
  | c :: t, _ =>
    have hc : (c.toNat : Int) = 32 := by have := hx c (by simp); omega
    have hst : stepS a d o c.toNat = some (11, d, o) := by
      rw [hc]
      rcases ha with rfl | rfl | rfl
      · rw [stepS7]; unfold onwS; simp [digB]
      · rw [stepS10]; unfold onwS; simp
      · rw [stepS11]; unfold onwS; simp
    rw [List.cons_append, plc_step hst, plc_d _ 11 d 0 _ _ (by simp), plc_skip 11 (by simp) t (fun y hy => hx y (by simp [hy]))]
    congr 1
    simp; omega
/-- A number that cannot go on is an operand that is complete. -/
theorem plc_num_end (m o i : Int) (l : List UInt8) (h : 18 ≤ m ∨ digB (hd l) = false) : plc 7 m o i l = plc 11 0 o i l := by
  cases l with
  | nil => rfl
  | cons c r =>
    rw [plc_d (c :: r) 11 0 m _ _ (by simp)]
    have : stepS 7 m o c.toNat = stepS 11 m o c.toNat := by
      rw [stepS7, stepS11]
      unfold onwS
      rcases h with h | h
      · simp [show ¬ m < 18 by omega]
      · simp only [hd] at h
        simp [h]
    simp only [plc, this]
theorem plc_acc_end (d o i : Int) (l : List UInt8) (h : digB (hd l) = false) : plc 10 d o i l = plc 11 0 o i l := by
  cases l with
  | nil => rfl
  | cons c r =>
    rw [plc_d (c :: r) 11 0 d _ _ (by simp)]
    have : stepS 10 d o c.toNat = stepS 11 d o c.toNat := by
      rw [stepS10, stepS11]
      unfold onwS
      simp only [hd] at h
      simp [h]
    simp only [plc, this]
/-- Digits of a number. -/
theorem plc_num (ds : List UInt8) (hd : ∀ c ∈ ds, digB c.toNat = true) : ∀ (m o i : Int) (r : List UInt8), 0 ≤ m → m + ds.length ≤ 18 → plc 7 m o i (ds ++ r) = plc 7 (m + ds.length) o (i + ds.length) r := by
  induction ds with
  | nil => intro m o i r _ _; simp
  | cons c t ih =>
    intro m o i r hm hl
    simp only [List.length_cons] at hl
    have hst : stepS 7 m o c.toNat = some (7, m + 1, o) := by
      rw [stepS7]; unfold onwS; simp [hd c (by simp), show m < 18 by omega]
    rw [List.cons_append, plc_step hst, ih (fun y hy => hd y (by simp [hy])) _ _ _ _ (by omega) (by omega)]
    simp only [List.length_cons]
    congr 1 <;> omega
theorem dig_c {c : Int} (h : digB c = true) : ¬ c = 32 ∧ ¬ c = 45 ∧ ¬ c = 40 := by simp [digB] at h; omega
theorem plc_number (ds : List UInt8) (hdg : ∀ c ∈ ds, digB c.toNat = true) (h1 : 1 ≤ ds.length) (h18 : ds.length ≤ 18) (r : List UInt8) (he : ds.length = 18 ∨ digB (hd r) = false) (d o i : Int) : plc 6 d o i (ds ++ r) = plc 11 0 o (i + ds.length) r := by
  match ds, h1 with
  | c :: t, _ =>
    have hc := hdg c (by simp)
    have hn := dig_c hc
    have hst : stepS 6 d o c.toNat = some (7, 1, o) := by
      rw [stepS6]; unfold factS; simp [hc, hn.1, hn.2.1, hn.2.2]
    simp only [List.length_cons] at h18 he ⊢
    rw [List.cons_append, plc_step hst, plc_num t (fun y hy => hdg y (by simp [hy])) _ _ _ _ (by omega) (by omega), plc_num_end _ _ _ _ (by rcases he with h | h; left; omega; right; exact h)]
    congr 1
    omega

end Db
namespace Db

theorem sel_c {c : Int} (h : selB c = true) : ¬ c = 32 ∧ ¬ c = 45 ∧ ¬ c = 40 ∧ digB c = false := by
  simp [selB] at h; rcases h with (rfl | rfl) | rfl <;> simp [digB]
theorem old_c {c : Int} (h : oldB c = true) : ¬ c = 32 ∧ ¬ c = 45 ∧ ¬ c = 40 ∧ digB c = false ∧ selB c = false := by
  simp [oldB] at h; rcases h with rfl | rfl <;> simp [digB, selB]
theorem op_c {c : Int} (h : opB c = true) : ¬ c = 32 ∧ ¬ c = 40 ∧ ¬ c = 41 ∧ ¬ c = 59 ∧ digB c = false ∧ selB c = false ∧ oldB c = false := by
  simp [opB] at h; rcases h with ((rfl | rfl) | rfl) | rfl <;> simp [digB, selB, oldB]
theorem plc_sel1 {c : UInt8} (h : selB c.toNat = true) (d o i : Int) (r : List UInt8) : plc 6 d o i (c :: r) = plc 8 d o (i + 1) r := by
  have hn := sel_c h
  exact plc_step (by rw [stepS6]; unfold factS; simp [h, hn.1, hn.2.1, hn.2.2.1, hn.2.2.2])
theorem plc_old1 {c : UInt8} (h : oldB c.toNat = true) (d o i : Int) (r : List UInt8) : plc 6 d o i (c :: r) = plc 9 d o (i + 1) r := by
  have hn := old_c h
  exact plc_step (by rw [stepS6]; unfold factS; simp [h, hn.1, hn.2.1, hn.2.2.1, hn.2.2.2.1, hn.2.2.2.2])
theorem plc_sel (ds : List UInt8) (hdg : ∀ c ∈ ds, digB c.toNat = true) (h1 : 1 ≤ ds.length) (h2 : ds.length ≤ 2) (r : List UInt8) (he : ds.length = 2 ∨ digB (hd r) = false) (d o i : Int) : plc 8 d o i (ds ++ r) = plc 11 0 o (i + ds.length) r := by
  have s8 : ∀ x : UInt8, digB x.toNat = true → ∀ d, stepS 8 d o x.toNat = some (10, d, o) := fun x hx d => by rw [stepS8]; unfold factS; simp [hx]
  have s10 : ∀ x : UInt8, digB x.toNat = true → ∀ d, stepS 10 d o x.toNat = some (11, d, o) := fun x hx d => by rw [stepS10]; unfold onwS; simp [hx]
  match ds, h1, h2 with
  | [x], _, _ =>
    rw [List.cons_append, plc_step (s8 x (hdg x (by simp)) d)]
    simp only [List.length_cons, List.length_nil, List.nil_append] at he ⊢
    rw [plc_acc_end _ _ _ _ (by rcases he with he | he; omega; exact he)]
    rfl
  | [x, y], _, _ =>
    rw [List.cons_append, plc_step (s8 x (hdg x (by simp)) d), List.cons_append, plc_step (s10 y (hdg y (by simp)) d), plc_d _ 11 d 0 _ _ (by simp)]
    simp only [List.length_cons, List.length_nil, List.nil_append]
    congr 1
    omega
  | _ :: _ :: _ :: _, _, h2 => simp at h2
theorem plc_old (x : UInt8) (hx : digB x.toNat = true) (r : List UInt8) (d o i : Int) : plc 9 d o i (x :: r) = plc 11 0 o (i + 1) r := by
  rw [plc_step (show stepS 9 d o x.toNat = some (11, d, o) by rw [stepS9]; unfold factS; simp [hx]), plc_d _ 11 d 0 _ _ (by simp)]
theorem plc_fail8 (l : List UInt8) (h : digB (hd l) = false) (d o i : Int) : plc 8 d o i l = i := by
  cases l with
  | nil => rfl
  | cons c r => exact plc_stop (by rw [stepS8]; unfold factS; simp only [hd] at h; simp [h])
theorem plc_fail9 (l : List UInt8) (h : digB (hd l) = false) (d o i : Int) : plc 9 d o i l = i := by
  cases l with
  | nil => rfl
  | cons c r => exact plc_stop (by rw [stepS9]; unfold factS; simp only [hd] at h; simp [h])
theorem plc_fail6 (l : List UInt8) (h1 : ¬ hd l = 32) (h2 : ¬ hd l = 45) (h3 : ¬ hd l = 40) (h4 : digB (hd l) = false) (h5 : selB (hd l) = false) (h6 : oldB (hd l) = false) (d o i : Int) : plc 6 d o i l = i := by
  cases l with
  | nil => rfl
  | cons c r => exact plc_stop (by rw [stepS6]; unfold factS; simp only [hd] at *; simp [*])
theorem plc_neg {c : UInt8} (h : (c.toNat : Int) = 45) (d o i : Int) (r : List UInt8) : plc 6 d o i (c :: r) = plc 6 d o (i + 1) r :=
  plc_step (by rw [stepS6]; unfold factS; simp [h])
theorem plc_par {c : UInt8} (h : (c.toNat : Int) = 40) (d o i : Int) (r : List UInt8) : plc 6 d o i (c :: r) = plc 6 d (o + 1) (i + 1) r :=
  plc_step (by rw [stepS6]; unfold factS; simp [h])
theorem plc_op {c : UInt8} (h : opB c.toNat = true) (d o i : Int) (r : List UInt8) : plc 11 d o i (c :: r) = plc 6 d o (i + 1) r := by
  have hn := op_c h
  exact plc_step (by rw [stepS11]; unfold onwS; simp [h, hn.1])
theorem plc_shut {c : UInt8} (h : (c.toNat : Int) = 41) (d o i : Int) (ho : 0 ≤ o) (r : List UInt8) : plc 11 d (o + 1) i (c :: r) = plc 11 d o (i + 1) r := by
  have e : stepS 11 d (o + 1) c.toNat = some (11, d, o) := by
    rw [stepS11, h]; unfold onwS; simp [opB, show 0 < o + 1 by omega]
  exact plc_step e
theorem plc_row {c : UInt8} (h : (c.toNat : Int) = 59) (d i : Int) (r : List UInt8) : plc 11 d 0 i (c :: r) = plc 6 d 0 (i + 1) r :=
  plc_step (by rw [stepS11, h]; unfold onwS; simp [opB])
/-- Within brackets: nothing but ) or an operation goes on. -/
theorem plc_fail11 (l : List UInt8) (h1 : ¬ hd l = 32) (h2 : opB (hd l) = false) (h3 : ¬ hd l = 41) (d o i : Int) (ho : 0 ≤ o) : plc 11 d (o + 1) i l = i := by
  cases l with
  | nil => simp [plc]; omega
  | cons c r =>
    refine plc_stop ?_
    rw [stepS11]; unfold onwS; simp only [hd] at *
    simp [h1, h2, h3, show ¬ o + 1 = 0 by omega]
/-- Outside of them: nothing but ; or an operation goes on. -/
theorem plc_fail0 (l : List UInt8) (hn : l ≠ []) (h1 : ¬ hd l = 32) (h2 : opB (hd l) = false) (h3 : ¬ hd l = 59) (d i : Int) : plc 11 d 0 i l = i := by
  cases l with
  | nil => exact absurd rfl hn
  | cons c r =>
    refine plc_stop ?_
    rw [stepS11]; unfold onwS; simp only [hd] at *
    simp [h1, h2, h3]

end Db
