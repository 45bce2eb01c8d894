/- Books: what the document says of accounts and a journal, as plain functions. -/
import Derived.Test.YtpcdkhmahbecaaaGreatDoorCore
namespace Db

/-- An account: its parent, whether it is closed. A line: account, amount. A transaction: id, day, lines. -/
abbrev Ac := Int × Bool
abbrev Ln := Int × Int
abbrev Tn := Int × Int × List Ln
structure Bk where
  acs : List Ac
  txs : List Tn

def bk0 : Bk := ⟨[(-1, false)], []⟩
def ther (s : Bk) (a : Int) : Bool := decide (0 ≤ a) && decide (a < s.acs.length)
def clsd (s : Bk) (a : Int) : Bool := (s.acs.getD a.toNat (0, false)).2
/-- P7: the number, the error, the book behind. -/
def opn (s : Bk) (p : Int) : Int × Int × Bk :=
  if ther s p = false then (0, 7, s) else if clsd s p = true then (0, 8, s) else if 16 ≤ s.acs.length then (0, 11, s)
  else (s.acs.length, 0, { s with acs := s.acs ++ [(p, false)] })
def opb (a : Int) : List Ac → Bool
  | [] => false
  | c :: r => (c.1 == a && !c.2) || opb a r
def balL (a : Int) : List Ln → Int
  | [] => 0
  | l :: r => (if l.1 == a then l.2 else 0) + balL a r
def balT (a : Int) : List Tn → Int
  | [] => 0
  | t :: r => balL a t.2.2 + balT a r
/-- P8. -/
def cls (s : Bk) (a : Int) : Int × Bk :=
  if ther s a = false ∨ a = 0 then (7, s) else if clsd s a = true then (8, s) else if opb a s.acs = true then (9, s) else if ¬ balT a s.txs = 0 then (10, s)
  else (0, { s with acs := s.acs.set a.toNat ((s.acs.getD a.toNat (0, false)).1, true) })
def findT (id : Int) : List Tn → Option Tn
  | [] => none
  | t :: r => if t.1 == id then some t else findT id r
def amtB (l : Ln) : Bool := l.2 == 0 || decide (l.2 < -1000000000000) || decide (1000000000000 < l.2)
def accB (s : Bk) (l : Ln) : Bool := ther s l.1 && !(l.1 == 0)
def sumL : List Ln → Int
  | [] => 0
  | l :: r => l.2 + sumL r
/-- P9, of lines: 0: nothing against them. -/
def lnsE (s : Bk) (ls : List Ln) : Int :=
  if ls.length < 2 ∨ 4 < ls.length then 15 else if ls.any amtB = true then 16 else if ls.all (accB s) = false then 7 else if ls.any (fun l => clsd s l.1) = true then 8
  else if ¬ sumL ls = 0 then 17 else 0
def pst (s : Bk) (id day : Int) (ls : List Ln) : Int × Bk :=
  if id < 0 ∨ 9999 < id then (12, s) else
  match findT id s.txs with
  | some t => (if t.2.1 = day ∧ t.2.2 = ls then 0 else 13, s)
  | none => if day < 0 ∨ 999 < day then (14, s) else if ¬ lnsE s ls = 0 then (lnsE s ls, s) else if 64 ≤ s.txs.length then (11, s)
    else (0, { s with txs := s.txs ++ [(id, day, ls)] })

/-- What is true of every book. -/
structure BkGood (s : Bk) : Prop where
  one : 1 ≤ s.acs.length
  few : s.acs.length ≤ 16
  par : ∀ c ∈ s.acs, -1 ≤ c.1 ∧ c.1 ≤ 16
  posts : s.txs.length ≤ 64
  tx : ∀ t ∈ s.txs, 0 ≤ t.1 ∧ t.1 ≤ 9999 ∧ 0 ≤ t.2.1 ∧ t.2.1 ≤ 999 ∧ t.2.2.length ≤ 4 ∧ ∀ l ∈ t.2.2, 0 < l.1 ∧ l.1 < 16 ∧ -1000000000000 ≤ l.2 ∧ l.2 ≤ 1000000000000

theorem good0 : BkGood bk0 := ⟨by simp [bk0], by simp [bk0], by simp [bk0], by simp [bk0], by simp [bk0]⟩
theorem BkGood.opn {s : Bk} (h : BkGood s) (p : Int) : BkGood (opn s p).2.2 := by
  unfold Db.opn
  split
  · exact h
  · split
    · exact h
    · split
      · exact h
      · rename_i h1 _ h3
        refine ⟨by simp, by simp; omega, ?_, h.posts, h.tx⟩
        intro c hc
        simp only [List.mem_append, List.mem_singleton] at hc
        rcases hc with hc | rfl
        · exact h.par c hc
        · simp only [Bool.not_eq_false] at h1
          unfold ther at h1
          simp only [Bool.and_eq_true, decide_eq_true_eq] at h1
          have := h.few
          simp only
          omega
theorem BkGood.cls {s : Bk} (h : BkGood s) (a : Int) : BkGood (cls s a).2 := by
  unfold Db.cls
  repeat' split
  all_goals first | exact h | skip
  refine ⟨by simpa using h.one, by simpa using h.few, ?_, h.posts, h.tx⟩
  intro c hc
  rcases List.mem_or_eq_of_mem_set hc with hc | rfl
  · exact h.par c hc
  · simp only
    have hd : s.acs.getD a.toNat (0, false) ∈ s.acs ∨ s.acs.getD a.toNat (0, false) = (0, false) := by
      rw [List.getD_eq_getElem?_getD]
      cases hg : s.acs[a.toNat]? with
      | none => right; rfl
      | some x => left; exact List.mem_of_getElem? hg
    rcases hd with hd | hd
    · exact h.par _ hd
    · rw [hd]; simp
theorem lnsE_ok {s : Bk} {ls : List Ln} (hs : BkGood s) (h : lnsE s ls = 0) : ls.length ≤ 4 ∧ ∀ l ∈ ls, 0 < l.1 ∧ l.1 < 16 ∧ -1000000000000 ≤ l.2 ∧ l.2 ≤ 1000000000000 := by
  unfold lnsE at h
  split at h
  · simp at h
  · split at h
    · simp at h
    · split at h
      · simp at h
      · rename_i h1 h2 h3
        refine ⟨by omega, fun l hl => ?_⟩
        simp only [Bool.not_eq_true, List.any_eq_false] at h2
        simp only [Bool.not_eq_false, List.all_eq_true] at h3
        have a : amtB l = false := by simpa using h2 l hl
        have b := h3 l hl
        unfold amtB at a
        unfold accB ther at b
        simp only [Bool.or_eq_false_iff, decide_eq_false_iff_not] at a
        simp only [decide_eq_true_eq, Bool.and_eq_true, Bool.not_eq_true', beq_eq_false_iff_ne, ne_eq] at b
        have := hs.few
        omega
theorem BkGood.pst {s : Bk} (h : BkGood s) (id day : Int) (ls : List Ln) : BkGood (pst s id day ls).2 := by
  unfold Db.pst
  split
  · exact h
  · split
    · exact h
    · split
      · exact h
      · split
        · exact h
        · split
          · exact h
          · rename_i h1 _ h2 h3 h4
            have hl := lnsE_ok h (Decidable.not_not.1 h3)
            refine ⟨h.one, h.few, h.par, by simp; omega, ?_⟩
            intro t ht
            simp only [List.mem_append, List.mem_singleton] at ht
            rcases ht with ht | rfl
            · exact h.tx t ht
            · simp only
              exact ⟨by omega, by omega, by omega, by omega, hl.1, hl.2⟩

/-- The sums stay small. -/
theorem balL_le (a : Int) (ls : List Ln) (h : ∀ l ∈ ls, -1000000000000 ≤ l.2 ∧ l.2 ≤ 1000000000000) : -(1000000000000 * (ls.length : Int)) ≤ balL a ls ∧ balL a ls ≤ 1000000000000 * (ls.length : Int) := by
  induction ls with
  | nil => simp [balL]
  | cons l r ih =>
    have h1 := h l (by simp)
    have h2 := ih (fun x hx => h x (by simp [hx]))
    simp only [balL, List.length_cons]
    split <;> omega
theorem balT_le (a : Int) (ts : List Tn) (h : ∀ t ∈ ts, t.2.2.length ≤ 4 ∧ ∀ l ∈ t.2.2, -1000000000000 ≤ l.2 ∧ l.2 ≤ 1000000000000) : -(4000000000000 * (ts.length : Int)) ≤ balT a ts ∧ balT a ts ≤ 4000000000000 * (ts.length : Int) := by
  induction ts with
  | nil => simp [balT]
  | cons t r ih =>
    have h1 := h t (by simp)
    have h2 := ih (fun x hx => h x (by simp [hx]))
    have h3 := balL_le a t.2.2 h1.2
    simp only [balT, List.length_cons]
    omega
end Db
