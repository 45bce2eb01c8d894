/- Show: the plain form, by a pile of pieces; digits without noughts ahead. -/
import Derived.Test.YtpcdkhmahbecaaaDoorParG
import Derived.Test.YtpcdkhmahbecaaaDoorCoreF
import Derived.Lib.ItoaNum
import Derived.Lib.ItoaMem
namespace Db
open Go

/-- Digits without a 0 ahead of another digit. -/
def trm : List UInt8 → List UInt8
  | [] => []
  | [c] => [c]
  | c :: d :: r => if c.toNat = 48 then trm (d :: r) else c :: d :: r
theorem trm_zeros (z : List UInt8) (hz : ∀ c ∈ z, c.toNat = 48) (c : UInt8) : trm (z ++ [c]) = [c] := by
  induction z with
  | nil => rfl
  | cons x t ih =>
    have hx := hz x (by simp)
    have ih := ih (fun y hy => hz y (by simp [hy]))
    cases t with
    | nil => simp [trm, hx]
    | cons y r => simpa [trm, hx] using ih
theorem trm_snoc (ds : List UInt8) (h : ∃ x ∈ ds, ¬ x.toNat = 48) (c : UInt8) : trm (ds ++ [c]) = trm ds ++ [c] := by
  induction ds with
  | nil => obtain ⟨x, hx, _⟩ := h; cases hx
  | cons x t ih =>
    by_cases hx : x.toNat = 48
    · have h' : ∃ y ∈ t, ¬ y.toNat = 48 := by
        obtain ⟨y, hy, hn⟩ := h
        rw [List.mem_cons] at hy
        rcases hy with rfl | hy
        · exact absurd hx hn
        · exact ⟨y, hy, hn⟩
      have ih := ih h'
      cases t with
      | nil => obtain ⟨y, hy, _⟩ := h'; cases hy
      | cons y r => simpa [trm, hx] using ih
    · cases t with
      | nil => simp [trm, hx]
      | cons y r => simp [trm, hx]
theorem valGo_snoc' (l : List UInt8) (c : UInt8) : ∀ n, valGo n (l ++ [c]) = 10 * valGo n l + ((c.toNat : Int) - 48) := by
  induction l with
  | nil => intro n; rfl
  | cons x t ih => intro n; exact ih _
theorem val_zero (z : List UInt8) (hd : ∀ c ∈ z, digB c.toNat = true) (h : val z = 0) : ∀ c ∈ z, c.toNat = 48 := by
  have key : ∀ (z : List UInt8) (n : Int), 0 ≤ n → (∀ c ∈ z, digB c.toNat = true) → valGo n z = 0 → n = 0 ∧ ∀ c ∈ z, c.toNat = 48 := by
    intro z
    induction z with
    | nil => intro n _ _ h; exact ⟨h, by simp⟩
    | cons x t ih =>
      intro n hn hd h
      have hx := hd x (by simp)
      simp [digB] at hx
      have := ih (10 * n + ((x.toNat : Int) - 48)) (by omega) (fun c hc => hd c (by simp [hc])) h
      refine ⟨by omega, ?_⟩
      intro c hc
      rw [List.mem_cons] at hc
      rcases hc with rfl | hc
      · omega
      · exact this.2 c hc
  exact (key z 0 (by omega) hd h).2
theorem zero_val (z : List UInt8) (hz : ∀ c ∈ z, c.toNat = 48) : val z = 0 := by
  have : ∀ (z : List UInt8), (∀ c ∈ z, c.toNat = 48) → valGo 0 z = 0 := by
    intro z
    induction z with
    | nil => intro _; rfl
    | cons x t ih =>
      intro h
      have hx := h x (by simp)
      show valGo (10 * 0 + ((x.toNat : Int) - 48)) t = 0
      rw [hx]
      exact ih (fun c hc => h c (by simp [hc]))
  exact this z hz
theorem u8_of {c : UInt8} {n : Nat} (h : c.toNat = n) : UInt8.ofNat n = c := by rw [← h]; simp
/-- Digits without noughts ahead are those of their value. -/
theorem trm_dec (ds : List UInt8) (hn : ds ≠ []) (hd : ∀ c ∈ ds, digB c.toNat = true) : trm ds = Lib.decDigits (val ds).toNat := by
  have key : ∀ (r : List UInt8), (∀ c ∈ r, digB c.toNat = true) → r ≠ [] → trm r.reverse = Lib.decDigits (val r.reverse).toNat := by
    intro r
    induction r with
    | nil => intro _ h; exact absurd rfl h
    | cons c t ih =>
      intro hd _
      have hc := hd c (by simp)
      simp [digB] at hc
      have hdt : ∀ x ∈ t.reverse, digB x.toNat = true := fun x hx => hd x (by simp at hx; simp [hx])
      have hv : val (t.reverse ++ [c]) = 10 * val t.reverse + ((c.toNat : Int) - 48) := valGo_snoc' t.reverse c 0
      have hp := val_pos t.reverse hdt
      rw [List.reverse_cons]
      by_cases h0 : val t.reverse = 0
      · rw [trm_zeros _ (val_zero _ hdt h0), hv, h0, Lib.decDigits_one (by omega)]
        rw [u8_of (c := c) (by omega)]
      · have hex : ∃ x ∈ t.reverse, ¬ x.toNat = 48 := by
          apply Classical.byContradiction
          intro hne
          refine h0 (zero_val _ (fun x hx => ?_))
          apply Classical.byContradiction
          intro hx48
          exact hne ⟨x, hx, hx48⟩
        have htn : t ≠ [] := by intro e; subst e; obtain ⟨x, hx, _⟩ := hex; cases hx
        rw [trm_snoc _ hex, ih (fun x hx => hd x (by simp [hx])) htn, hv]
        have e1 : (10 * val t.reverse + ((c.toNat : Int) - 48)).toNat = 10 * (val t.reverse).toNat + (c.toNat - 48) := by omega
        rw [e1]
        conv => rhs; rw [Lib.decDigits]
        rw [dif_neg (by omega)]
        have e2 : (10 * (val t.reverse).toNat + (c.toNat - 48)) / 10 = (val t.reverse).toNat := by omega
        have e3 : (10 * (val t.reverse).toNat + (c.toNat - 48)) % 10 = c.toNat - 48 := by omega
        rw [e2, e3, u8_of (c := c) (by omega)]
  have := key ds.reverse (fun c hc => hd c (by simpa using hc)) (by simpa using hn)
  simpa using this

/-- A sign as a byte. -/
def u8 (s : Int) : UInt8 := UInt8.ofNat s.toNat
theorem u8_toNat (c : UInt8) : u8 (c.toNat : Int) = c := by simp [u8]
/-- A piece: its text, how firmly it holds. -/
abbrev Pc := List UInt8 × Nat
def brk (p : Pc) (least : Nat) : List UInt8 := if p.2 < least then 40 :: (p.1 ++ [41]) else p.1
def rkS (o : Int) : Nat := if o == 42 || o == 47 then 2 else 1
def wordP (p : Pt) : List UInt8 := if p.1 == 48 then Lib.itoa p.2 else u8 p.1 :: Lib.itoa p.2
def sEval : List Pt → List Pc → List Pc
  | [], st => st
  | p :: r, st => if opdB p.1 then sEval r ((wordP p, 3) :: st) else if p.1 == 126 then
      match st with
      | x :: t => sEval r ((45 :: brk x 3, 3) :: t)
      | [] => []
    else match st with
      | y :: x :: t => sEval r ((brk x (rkS p.1) ++ u8 p.1 :: brk y (rkS p.1 + 1), rkS p.1) :: t)
      | _ => st
def ShowR (ps : List Pt) (x : Pc) : Prop := ∀ q st, sEval (ps ++ q) st = sEval q (x :: st)
theorem ShowR.uniq {ps : List Pt} {x y : Pc} (h : ShowR ps x) (k : ShowR ps y) : x = y := by
  have h1 := h [] []
  have h2 := k [] []
  rw [h1] at h2
  simpa [sEval] using h2
theorem showR_leaf {p : Pt} (h : opdB p.1 = true) : ShowR [p] (wordP p, 3) := fun q st => by simp [sEval, h]
theorem showR_neg {ps : List Pt} {x : Pc} (h : ShowR ps x) : ShowR (ps ++ [(126, 0)]) (45 :: brk x 3, 3) := fun q st => by
  rw [List.append_assoc, h]; simp [sEval, opdB, selB, oldB]
theorem showR_bin {p q : List Pt} {x y : Pc} {o : Int} (ho : opB o = true) (hp : ShowR p x) (hq : ShowR q y) : ShowR (p ++ q ++ [(o, 0)]) (brk x (rkS o) ++ u8 o :: brk y (rkS o + 1), rkS o) := fun r st => by
  rw [List.append_assoc, List.append_assoc, hp, hq]
  have := opd_op ho
  simp [sEval, this.1, this.2]
/-- How firmly the operation holds that is worked out last. -/
def rkO (o : Int) : Nat := if o == 43 || o == 45 then 1 else if o == 42 || o == 47 then 2 else 3
theorem rkO_op {o : Int} (h : opB o = true) : rkO o = rkS o := by
  simp [opB] at h; rcases h with ((rfl | rfl) | rfl) | rfl <;> rfl
theorem wf_show {n : Nat} : ∀ {e : List UInt8} {ps : List Pt}, Wf n e ps → ∃ x, ShowR ps x := by
  induction n with
  | zero => intro e ps h; exact absurd h (by simp [Wf])
  | succ n ih =>
    intro e ps h
    rcases h with ⟨_, h⟩ | ⟨_, h2⟩ | ⟨_, p, h2, rfl⟩ | ⟨h1, p, r, h2, h3, rfl⟩
    · obtain ⟨p, rfl, hp⟩ := opnd_opd h
      exact ⟨_, showR_leaf hp⟩
    · exact ih h2
    · obtain ⟨x, hx⟩ := ih h2
      exact ⟨_, showR_neg hx⟩
    · obtain ⟨x, hx⟩ := ih h2
      obtain ⟨y, hy⟩ := ih h3
      exact ⟨_, showR_bin h1 hx hy⟩
/-- An operand in its plain form. -/
theorem opnd_word {e : List UInt8} {p : Pt} (h : Opnd e [p]) : wordP p = (if digB (hd e) then trm e else e.take 1 ++ trm (e.drop 1)) ∧ 1 ≤ e.length := by
  rcases h with ⟨h1, _, hd1, he⟩ | ⟨c, ds, rfl, h1, hd1, hs, he⟩
  · simp at he
    subst he
    have hn : e ≠ [] := by intro e0; subst e0; simp at h1
    refine ⟨?_, h1⟩
    have hh : digB (hd e) = true := by
      cases e with
      | nil => exact absurd rfl hn
      | cons c r => exact hd1 c (by simp)
    have hp := val_pos e hd1
    rw [hh, if_pos rfl, trm_dec e hn hd1]
    unfold wordP
    show Lib.itoa (val e) = _
    rw [Lib.itoa, if_neg (by omega)]
  · simp at he
    subst he
    refine ⟨?_, by simp⟩
    have hcd : digB (c.toNat : Int) = false := by
      rcases hs with ⟨hs, _⟩ | ⟨hs, _⟩
      · exact (sel_c hs).2.2.2
      · exact (old_c hs).2.2.2.1
    have hn : ds ≠ [] := by intro e0; subst e0; simp at h1
    have hp := val_pos ds hd1
    have h48 : ((c.toNat : Int) == 48) = false := by
      rw [beq_eq_false_iff_ne]; intro e0; rw [e0] at hcd; cases hcd
    unfold wordP
    simp only [hd, hcd, h48]
    simp only [Bool.false_eq_true, if_false]
    rw [Lib.itoa, if_neg (by omega), u8_toNat, List.drop_one, List.tail_cons, trm_dec ds hn hd1]
    simp

end Db
