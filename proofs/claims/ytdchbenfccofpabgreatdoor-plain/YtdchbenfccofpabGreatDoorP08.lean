/- Show: the plain form, by a pile of pieces; digits without noughts ahead. The digits of a number. Plain: the shown text of a row is no longer than the row, and reads back to the same parts. Plain: the shown text of a row reads back to the same parts. Walks of Show: numerals, signs, brackets. The reader: where it lies, what a call leaves of the rest; walks of skipBlanks, next. Walks of the reader: digits, day, period. Walks of the reader: period. Walks of the reader: periods. Walks of the reader: periods. -/
import Derived.Test.YtdchbenfccofpabGreatDoorP07
import Derived.Test.YtdchbenfccofpabGreatDoorP02
import Derived.Lib.ItoaNum
import Derived.Lib.ItoaMem
import Derived.Test.YtdchbenfccofpabGreatDoorP01
import Derived.Lib.ItoaLen
import Derived.Test.YtdchbenfccofpabGreatDoorP03
import Derived.Lib.AppendIntMem
import Derived.Laws.IdiomStrings
import Derived.Deep.LoopGhost
namespace Db
open Go

/-- Digits without a 0 ahead of another digit. -/
def trm : List UInt8 → List UInt8
  | [] => []
  | [c] => [c]
  | c :: d :: r => if c.toNat = 48 then trm (d :: r) else c :: d :: r
theorem trm_zeros (z : List UInt8) (hz : ∀ c ∈ z, c.toNat = 48) (c : UInt8) : trm (z ++ [c]) = [c] := by
  induction z with
  | nil => rfl
  | cons x t ih =>
    have hx := hz x (by simp)
    have ih := ih (fun y hy => hz y (by simp [hy]))
    cases t with
    | nil => simp [trm, hx]
    | cons y r => simpa [trm, hx] using ih
theorem trm_snoc (ds : List UInt8) (h : ∃ x ∈ ds, ¬ x.toNat = 48) (c : UInt8) : trm (ds ++ [c]) = trm ds ++ [c] := by
  induction ds with
  | nil => obtain ⟨x, hx, _⟩ := h; cases hx
  | cons x t ih =>
    by_cases hx : x.toNat = 48
    · have h' : ∃ y ∈ t, ¬ y.toNat = 48 := by
        obtain ⟨y, hy, hn⟩ := h
        rw [List.mem_cons] at hy
        rcases hy with rfl | hy
        · exact absurd hx hn
        · exact ⟨y, hy, hn⟩
      have ih := ih h'
      cases t with
      | nil => obtain ⟨y, hy, _⟩ := h'; cases hy
      | cons y r => simpa [trm, hx] using ih
    · cases t with
      | nil => simp [trm, hx]
      | cons y r => simp [trm, hx]
theorem valGo_snoc' (l : List UInt8) (c : UInt8) : ∀ n, valGo n (l ++ [c]) = 10 * valGo n l + ((c.toNat : Int) - 48) := by
  induction l with
  | nil => intro n; rfl
  | cons x t ih => intro n; exact ih _
theorem val_zero (z : List UInt8) (hd : ∀ c ∈ z, digB c.toNat = true) (h : val z = 0) : ∀ c ∈ z, c.toNat = 48 := by
  have key : ∀ (z : List UInt8) (n : Int), 0 ≤ n → (∀ c ∈ z, digB c.toNat = true) → valGo n z = 0 → n = 0 ∧ ∀ c ∈ z, c.toNat = 48 := by
    intro z
    induction z with
    | nil => intro n _ _ h; exact ⟨h, by simp⟩
    | cons x t ih =>
      intro n hn hd h
      have hx := hd x (by simp)
      simp [digB] at hx
      have := ih (10 * n + ((x.toNat : Int) - 48)) (by omega) (fun c hc => hd c (by simp [hc])) h
      refine ⟨by omega, ?_⟩
      intro c hc
      rw [List.mem_cons] at hc
      rcases hc with rfl | hc
      · omega
      · exact this.2 c hc
  exact (key z 0 (by omega) hd h).2
theorem zero_val (z : List UInt8) (hz : ∀ c ∈ z, c.toNat = 48) : val z = 0 := by
  have : ∀ (z : List UInt8), (∀ c ∈ z, c.toNat = 48) → valGo 0 z = 0 := by
    intro z
    induction z with
    | nil => intro _; rfl
    | cons x t ih =>
      intro h
      have hx := h x (by simp)
      show valGo (10 * 0 + ((x.toNat : Int) - 48)) t = 0
      rw [hx]
      exact ih (fun c hc => h c (by simp [hc]))
  exact this z hz
theorem u8_of {c : UInt8} {n : Nat} (h : c.toNat = n) : UInt8.ofNat n = c := by rw [← h]; simp
/-- Digits without noughts ahead are those of their value. -/
theorem trm_dec (ds : List UInt8) (hn : ds ≠ []) (hd : ∀ c ∈ ds, digB c.toNat = true) : trm ds = Lib.decDigits (val ds).toNat := by
  have key : ∀ (r : List UInt8), (∀ c ∈ r, digB c.toNat = true) → r ≠ [] → trm r.reverse = Lib.decDigits (val r.reverse).toNat := by
    intro r
    induction r with
    | nil => intro _ h; exact absurd rfl h
    | cons c t ih =>
      intro hd _
      have hc := hd c (by simp)
      simp [digB] at hc
      have hdt : ∀ x ∈ t.reverse, digB x.toNat = true := fun x hx => hd x (by simp at hx; simp [hx])
      have hv : val (t.reverse ++ [c]) = 10 * val t.reverse + ((c.toNat : Int) - 48) := valGo_snoc' t.reverse c 0
      have hp := val_pos t.reverse hdt
      rw [List.reverse_cons]
      by_cases h0 : val t.reverse = 0
      · rw [trm_zeros _ (val_zero _ hdt h0), hv, h0, Lib.decDigits_one (by omega)]
        rw [u8_of (c := c) (by omega)]
      · have hex : ∃ x ∈ t.reverse, ¬ x.toNat = 48 := by
          apply Classical.byContradiction
          intro hne
          refine h0 (zero_val _ (fun x hx => ?_))
          apply Classical.byContradiction
          intro hx48
          exact hne ⟨x, hx, hx48⟩
        have htn : t ≠ [] := by intro e; subst e; obtain ⟨x, hx, _⟩ := hex; cases hx
        rw [trm_snoc _ hex, ih (fun x hx => hd x (by simp [hx])) htn, hv]
        have e1 : (10 * val t.reverse + ((c.toNat : Int) - 48)).toNat = 10 * (val t.reverse).toNat + (c.toNat - 48) := by omega
        rw [e1]
        conv => rhs; rw [Lib.decDigits]
        rw [dif_neg (by omega)]
        have e2 : (10 * (val t.reverse).toNat + (c.toNat - 48)) / 10 = (val t.reverse).toNat := by omega
        have e3 : (10 * (val t.reverse).toNat + (c.toNat - 48)) % 10 = c.toNat - 48 := by omega
        rw [e2, e3, u8_of (c := c) (by omega)]
  have := key ds.reverse (fun c hc => hd c (by simpa using hc)) (by simpa using hn)
  simpa using this

/-- A sign as a byte. -/
def u8 (s : Int) : UInt8 := UInt8.ofNat s.toNat
theorem u8_toNat (c : UInt8) : u8 (c.toNat : Int) = c := by simp [u8]
/-- A piece: its text, how firmly it holds. -/
abbrev Pc := List UInt8 × Nat
def brk (p : Pc) (least : Nat) : List UInt8 := if p.2 < least then 40 :: (p.1 ++ [41]) else p.1
def rkS (o : Int) : Nat := if o == 42 || o == 47 then 2 else 1
def wordP (p : Pt) : List UInt8 := if p.1 == 48 then Lib.itoa p.2 else u8 p.1 :: Lib.itoa p.2
def sEval : List Pt → List Pc → List Pc
  | [], st => st
  | p :: r, st => if opdB p.1 then sEval r ((wordP p, 3) :: st) else if p.1 == 126 then
      match st with
      | x :: t => sEval r ((45 :: brk x 3, 3) :: t)
      | [] => []
    else match st with
      | y :: x :: t => sEval r ((brk x (rkS p.1) ++ u8 p.1 :: brk y (rkS p.1 + 1), rkS p.1) :: t)
      | _ => st
def ShowR (ps : List Pt) (x : Pc) : Prop := ∀ q st, sEval (ps ++ q) st = sEval q (x :: st)
theorem ShowR.uniq {ps : List Pt} {x y : Pc} (h : ShowR ps x) (k : ShowR ps y) : x = y := by
  have h1 := h [] []
  have h2 := k [] []
  rw [h1] at h2
  simpa [sEval] using h2
theorem showR_leaf {p : Pt} (h : opdB p.1 = true) : ShowR [p] (wordP p, 3) := fun q st => by simp [sEval, h]
theorem showR_neg {ps : List Pt} {x : Pc} (h : ShowR ps x) : ShowR (ps ++ [(126, 0)]) (45 :: brk x 3, 3) := fun q st => by
  rw [List.append_assoc, h]; simp [sEval, opdB, selB, oldB]
theorem showR_bin {p q : List Pt} {x y : Pc} {o : Int} (ho : opB o = true) (hp : ShowR p x) (hq : ShowR q y) : ShowR (p ++ q ++ [(o, 0)]) (brk x (rkS o) ++ u8 o :: brk y (rkS o + 1), rkS o) := fun r st => by
  rw [List.append_assoc, List.append_assoc, hp, hq]
  have := opd_op ho
  simp [sEval, this.1, this.2]
/-- How firmly the operation holds that is worked out last. -/
def rkO (o : Int) : Nat := if o == 43 || o == 45 then 1 else if o == 42 || o == 47 then 2 else 3
theorem rkO_op {o : Int} (h : opB o = true) : rkO o = rkS o := by
  simp [opB] at h; rcases h with ((rfl | rfl) | rfl) | rfl <;> rfl
theorem wf_show {n : Nat} : ∀ {e : List UInt8} {ps : List Pt}, Wf n e ps → ∃ x, ShowR ps x := by
  induction n with
  | zero => intro e ps h; exact absurd h (by simp [Wf])
  | succ n ih =>
    intro e ps h
    rcases h with ⟨_, h⟩ | ⟨_, h2⟩ | ⟨_, p, h2, rfl⟩ | ⟨h1, p, r, h2, h3, rfl⟩
    · obtain ⟨p, rfl, hp⟩ := opnd_opd h
      exact ⟨_, showR_leaf hp⟩
    · exact ih h2
    · obtain ⟨x, hx⟩ := ih h2
      exact ⟨_, showR_neg hx⟩
    · obtain ⟨x, hx⟩ := ih h2
      obtain ⟨y, hy⟩ := ih h3
      exact ⟨_, showR_bin h1 hx hy⟩
/-- An operand in its plain form. -/
theorem opnd_word {e : List UInt8} {p : Pt} (h : Opnd e [p]) : wordP p = (if digB (hd e) then trm e else e.take 1 ++ trm (e.drop 1)) ∧ 1 ≤ e.length := by
  rcases h with ⟨h1, _, hd1, he⟩ | ⟨c, ds, rfl, h1, hd1, hs, he⟩
  · simp at he
    subst he
    have hn : e ≠ [] := by intro e0; subst e0; simp at h1
    refine ⟨?_, h1⟩
    have hh : digB (hd e) = true := by
      cases e with
      | nil => exact absurd rfl hn
      | cons c r => exact hd1 c (by simp)
    have hp := val_pos e hd1
    rw [hh, if_pos rfl, trm_dec e hn hd1]
    unfold wordP
    show Lib.itoa (val e) = _
    rw [Lib.itoa, if_neg (by omega)]
  · simp at he
    subst he
    refine ⟨?_, by simp⟩
    have hcd : digB (c.toNat : Int) = false := by
      rcases hs with ⟨hs, _⟩ | ⟨hs, _⟩
      · exact (sel_c hs).2.2.2
      · exact (old_c hs).2.2.2.1
    have hn : ds ≠ [] := by intro e0; subst e0; simp at h1
    have hp := val_pos ds hd1
    have h48 : ((c.toNat : Int) == 48) = false := by
      rw [beq_eq_false_iff_ne]; intro e0; rw [e0] at hcd; cases hcd
    unfold wordP
    simp only [hd, hcd, h48]
    simp only [Bool.false_eq_true, if_false]
    rw [Lib.itoa, if_neg (by omega), u8_toNat, List.drop_one, List.tail_cons, trm_dec ds hn hd1]
    simp

end Db
namespace Db
open Go

theorem valGo_app (l : List UInt8) (c : UInt8) : ∀ n, valGo n (l ++ [c]) = 10 * valGo n l + ((c.toNat : Int) - 48) := by
  induction l with
  | nil => intro n; rfl
  | cons x t ih => intro n; exact ih _
theorem ofNat_dig {d : Nat} (h : d < 10) : (UInt8.ofNat (48 + d)).toNat = 48 + d := by simp; omega
/-- The digits of a number. -/
theorem dec_facts (u : Nat) : (∀ c ∈ Lib.decDigits u, digB c.toNat = true) ∧ val (Lib.decDigits u) = u ∧ Lib.decDigits u ≠ [] ∧ (1 ≤ u → 10 ^ ((Lib.decDigits u).length - 1) ≤ u ∧ ∃ c t, Lib.decDigits u = c :: t ∧ ¬ c.toNat = 48) := by
  induction u using Nat.strongRecOn with
  | ind u ih =>
    by_cases h : u < 10
    · rw [Lib.decDigits_one h]
      have hd := ofNat_dig h
      refine ⟨?_, ?_, by simp, ?_⟩
      · intro c hc
        simp only [List.mem_singleton] at hc
        subst hc
        rw [hd]; unfold digB; simp; omega
      · show 10 * 0 + (((UInt8.ofNat (48 + u)).toNat : Int) - 48) = u
        rw [hd]; omega
      · intro h1
        refine ⟨by simpa using h1, _, [], rfl, ?_⟩
        rw [hd]; omega
    · obtain ⟨h1, h2, h3, h4⟩ := ih (u / 10) (by omega)
      obtain ⟨h5, c, t, h6, h7⟩ := h4 (by omega)
      have hd := ofNat_dig (d := u % 10) (by omega)
      have he : Lib.decDigits u = Lib.decDigits (u / 10) ++ [UInt8.ofNat (48 + u % 10)] := by rw [Lib.decDigits, dif_neg h]
      rw [he]
      refine ⟨?_, ?_, by simp, fun _ => ⟨?_, c, t ++ [UInt8.ofNat (48 + u % 10)], by rw [h6]; rfl, h7⟩⟩
      · intro x hx
        simp only [List.mem_append, List.mem_singleton] at hx
        rcases hx with hx | rfl
        · exact h1 x hx
        · rw [hd]; unfold digB; simp; omega
      · unfold val at h2 ⊢
        rw [valGo_app, h2, hd]; omega
      · have hl : 1 ≤ (Lib.decDigits (u / 10)).length := by rw [h6]; simp
        rw [List.length_append, List.length_singleton, Nat.add_sub_cancel]
        obtain ⟨m, hm⟩ : ∃ m, (Lib.decDigits (u / 10)).length = m + 1 := ⟨(Lib.decDigits (u / 10)).length - 1, by omega⟩
        rw [hm] at h5 ⊢
        rw [Nat.add_sub_cancel] at h5
        rw [Nat.pow_succ]
        omega
theorem dec_len {u : Nat} (h : u ≤ 9223372036854775808) : (Lib.decDigits u).length ≤ 19 := by
  by_cases h0 : u = 0
  · subst h0; rw [Lib.decDigits_one (by omega)]; decide
  · have h1 := ((dec_facts u).2.2.2 (by omega)).1
    rcases Nat.lt_or_ge 19 (Lib.decDigits u).length with h2 | h2
    · exfalso
      have h3 : 10 ^ 19 ≤ 10 ^ ((Lib.decDigits u).length - 1) := Nat.pow_le_pow_right (by omega) (by omega)
      have : (10 : Nat) ^ 19 = 10000000000000000000 := by decide
      omega
    · exact h2
end Db
namespace Db
open Go

/-- Hits behind the start of a scan, by a scan of the rest alone. -/
theorem finGo_upd (a b : Int) (l : List UInt8) : ∀ p k at_ i : Int, 0 ≤ i → (finGo a b p k (-1) 0 l < 0 → finGo a b p k at_ i l = at_) ∧ (0 ≤ finGo a b p k (-1) 0 l → finGo a b p k at_ i l = i + finGo a b p k (-1) 0 l) := by
  induction l with
  | nil => intro p k at_ i hi; exact ⟨fun _ => rfl, fun h => by simp only [finGo] at h; omega⟩
  | cons c r ih =>
    intro p k at_ i hi
    simp only [finGo]
    have h1 := ih c.toNat (dep k c.toNat) (hit a b p (dep k c.toNat) at_ i c.toNat) (i + 1) (by omega)
    have h2 := ih c.toNat (dep k c.toNat) (hit a b p (dep k c.toNat) (-1) 0 c.toNat) (0 + 1) (by omega)
    by_cases hf : finGo a b c.toNat (dep k c.toNat) (-1) 0 r < 0
    · rw [h1.1 hf, h2.1 hf]
      unfold hit
      split <;> omega
    · rw [h1.2 (by omega), h2.2 (by omega)]
      omega
theorem finGo_stt (a b : Int) (l : List UInt8) (p q k at_ i : Int) (hp : stt p) (hq : stt q) : finGo a b p k at_ i l = finGo a b q k at_ i l := by
  cases l with
  | nil => rfl
  | cons c r =>
    simp only [finGo]
    congr 1
    unfold hit binB
    have h1 : (p == 41) = false := by simpa using hp.2
    have h2 : (q == 41) = false := by simpa using hq.2
    rw [hp.1, hq.1, h1, h2]
theorem finGo_mono (a b : Int) (l : List UInt8) (p k at_ i : Int) (hi : 0 ≤ i) (ha : 0 ≤ at_) : 0 ≤ finGo a b p k at_ i l := by
  have h := finGo_upd a b l p k at_ i hi
  by_cases hf : finGo a b p k (-1) 0 l < 0
  · rw [h.1 hf]; exact ha
  · rw [h.2 (by omega)]; omega
/-- Where a scan stops: the open brackets, the last sign. -/
def dpth (k : Int) : List UInt8 → Int
  | [] => k
  | c :: r => dpth (dep k c.toNat) r
def lstp (p : Int) : List UInt8 → Int
  | [] => p
  | c :: r => lstp c.toNat r
theorem finGo_append (a b : Int) (l r : List UInt8) : ∀ p k at_ i : Int, finGo a b p k at_ i (l ++ r) = finGo a b (lstp p l) (dpth k l) (finGo a b p k at_ i l) (i + l.length) r := by
  induction l with
  | nil => intro p k at_ i; simp [finGo, lstp, dpth]
  | cons c t ih =>
    intro p k at_ i
    simp only [List.cons_append, finGo, lstp, dpth]
    rw [ih]
    congr 1
    simp; omega
/-- What stands where an operation is found. -/
theorem finGo_hit (a b : Int) (l : List UInt8) : ∀ p k at_ i m : Int, 0 ≤ i → at_ < i → finGo a b p k at_ i l = m → i ≤ m → ∃ x c r, l = x ++ c :: r ∧ (x.length : Int) = m - i ∧ dpth k (x ++ [c]) = 0 ∧ ((c.toNat : Int) = a ∨ (c.toNat : Int) = b) ∧ opB c.toNat = true ∧ finGo a b c.toNat 0 (-1) 0 r < 0 := by
  induction l with
  | nil => intro p k at_ i m hi ha h hm; simp only [finGo] at h; omega
  | cons c r ih =>
    intro p k at_ i m hi ha h hm
    simp only [finGo] at h
    by_cases h1 : i + 1 ≤ m
    · obtain ⟨x, d, t, e, hl, hd, hab, ho, hf⟩ := ih _ _ _ (i + 1) m (by omega) (by unfold hit; split <;> omega) h h1
      refine ⟨c :: x, d, t, by rw [e]; rfl, by simp; omega, hd, hab, ho, hf⟩
    · obtain rfl : m = i := by omega
      have hu := finGo_upd a b r c.toNat (dep k c.toNat) (hit a b p (dep k c.toNat) at_ m c.toNat) (m + 1) (by omega)
      have hf : finGo a b c.toNat (dep k c.toNat) (-1) 0 r < 0 := by
        apply Classical.byContradiction
        intro hf
        rw [hu.2 (by omega)] at h
        omega
      rw [hu.1 hf] at h
      unfold hit at h
      split at h
      · rename_i hb
        simp only [Bool.and_eq_true, Bool.or_eq_true, beq_iff_eq] at hb
        obtain ⟨⟨hb, hk⟩, hab⟩ := hb
        unfold binB at hb
        simp only [Bool.and_eq_true] at hb
        rw [hk] at hf
        exact ⟨[], c, r, rfl, by simp, hk, hab, hb.1, hf⟩
      · omega
theorem op_stt {c : Int} (h : opB c = true) : stt c := by
  have := op_c h
  exact ⟨this.2.2.2.2.1, this.2.2.1⟩
theorem fin_zero (e : List UInt8) (a b : Int) : ¬ fin e a b = 0 := by
  intro h
  cases e with
  | nil => simp [fin, finGo] at h
  | cons c r =>
    unfold fin at h
    simp only [finGo] at h
    have hh : hit a b (-1) (dep 0 c.toNat) (-1) 0 c.toNat = -1 := by
      unfold hit binB
      simp [digB]
    rw [hh] at h
    have hu := finGo_upd a b r c.toNat (dep 0 c.toNat) (-1) (0 + 1) (by omega)
    by_cases hf : finGo a b c.toNat (dep 0 c.toNat) (-1) 0 r < 0
    · rw [hu.1 hf] at h; omega
    · rw [hu.2 (by omega)] at h; omega
theorem fin_neg (e : List UInt8) (c : UInt8) (hc : (c.toNat : Int) = 45) (a b : Int) (h : fin (c :: e) a b < 0) : fin e a b < 0 := by
  unfold fin at h ⊢
  simp only [finGo] at h
  have h1 : dep 0 (c.toNat : Int) = 0 := by rw [hc]; rfl
  have hh : hit a b (-1) (dep 0 c.toNat) (-1) 0 c.toNat = -1 := by
    unfold hit binB
    simp [digB]
  rw [hh, h1] at h
  have hu := finGo_upd a b e c.toNat 0 (-1) (0 + 1) (by omega)
  rw [finGo_stt a b e (-1) c.toNat 0 (-1) 0 stt_start (by rw [hc]; exact ⟨rfl, by decide⟩)]
  apply Classical.byContradiction
  intro hf
  rw [hu.2 (by omega)] at h
  omega
/-- Where an expression is cut: the operations of the two sides. -/
theorem cut_bin {e : List UInt8} (ho : opB (cut e).1 = true) : ∃ c : UInt8, e = (cut e).2.1 ++ c :: (cut e).2.2 ∧ (cut e).1 = (c.toNat : Int) ∧
    ((0 < fin e 43 45 ∧ ((c.toNat : Int) = 43 ∨ (c.toNat : Int) = 45) ∧ fin (cut e).2.2 43 45 < 0) ∨
     (fin e 43 45 < 0 ∧ 0 < fin e 42 47 ∧ ((c.toNat : Int) = 42 ∨ (c.toNat : Int) = 47) ∧ fin (cut e).2.1 43 45 < 0 ∧ fin (cut e).2.2 43 45 < 0 ∧ fin (cut e).2.2 42 47 < 0)) := by
  have hpos : 0 < cutAt e := by
    apply Classical.byContradiction
    intro hn
    unfold cut at ho
    rw [if_neg hn] at ho
    split at ho
    · simp [opB] at ho
    · split at ho <;> simp [opB] at ho
  have hcut : ∀ (x : List UInt8) (c : UInt8) (r : List UInt8), e = x ++ c :: r → (x.length : Int) = cutAt e → cut e = ((c.toNat : Int), x, r) := by
    intro x c r h hl
    subst h
    exact cut_join x c r (by omega) hl.symm
  have hz1 := fin_zero e 43 45
  have hz2 := fin_zero e 42 47
  by_cases h1 : fin e 43 45 < 0
  · have hca : cutAt e = fin e 42 47 := by unfold cutAt; rw [if_pos h1]
    rw [hca] at hpos
    obtain ⟨x, c, r, he, hl, hd, hab, hop, hf⟩ := finGo_hit 42 47 e (-1) 0 (-1) 0 (fin e 42 47) (by omega) (by omega) rfl (by omega)
    have hc := hcut x c r he (by rw [hca]; omega)
    refine ⟨c, by rw [hc]; exact he, by rw [hc], .inr ⟨h1, hpos, hab, ?_, ?_, ?_⟩⟩
    · simp only [hc]
      apply Classical.byContradiction
      intro hx
      have : fin e 43 45 = _ := congrArg (fun l => fin l 43 45) he
      unfold fin at this
      rw [finGo_append] at this
      have hm := finGo_mono 43 45 (c :: r) (lstp (-1) x) (dpth 0 x) (finGo 43 45 (-1) 0 (-1) 0 x) (0 + x.length) (by omega) (by unfold fin at hx; omega)
      rw [← this] at hm
      unfold fin at h1
      omega
    · simp only [hc]
      apply Classical.byContradiction
      intro hx
      have : fin e 43 45 = _ := congrArg (fun l => fin l 43 45) (show e = (x ++ [c]) ++ r by rw [he]; simp)
      unfold fin at this
      rw [finGo_append, hd] at this
      have hlp : lstp (-1) (x ++ [c]) = c.toNat := by
        have : ∀ (x : List UInt8) (p : Int), lstp p (x ++ [c]) = c.toNat := by
          intro x
          induction x with
          | nil => intro p; rfl
          | cons y t ih => intro p; exact ih _
        exact this x _
      rw [hlp] at this
      have hu := finGo_upd 43 45 r c.toNat 0 (finGo 43 45 (-1) 0 (-1) 0 (x ++ [c])) (0 + (x ++ [c]).length) (by omega)
      unfold fin at hx
      rw [finGo_stt 43 45 r (-1) c.toNat 0 (-1) 0 stt_start (op_stt hop)] at hx
      rw [hu.2 (by omega)] at this
      unfold fin at h1
      omega
    · rw [hc]
      unfold fin
      rw [finGo_stt 42 47 r (-1) c.toNat 0 (-1) 0 stt_start (op_stt hop)]
      exact hf
  · have hca : cutAt e = fin e 43 45 := by unfold cutAt; rw [if_neg h1]
    rw [hca] at hpos
    obtain ⟨x, c, r, he, hl, hd, hab, hop, hf⟩ := finGo_hit 43 45 e (-1) 0 (-1) 0 (fin e 43 45) (by omega) (by omega) rfl (by omega)
    have hc := hcut x c r he (by rw [hca]; omega)
    refine ⟨c, by rw [hc]; exact he, by rw [hc], .inl ⟨hpos, hab, ?_⟩⟩
    rw [hc]
    unfold fin
    rw [finGo_stt 43 45 r (-1) c.toNat 0 (-1) 0 stt_start (op_stt hop)]
    exact hf
/-- A row's shown text: how long it is at most. -/
structure Shrt (e x : List UInt8) (r : Nat) : Prop where
  lo : 1 ≤ r
  hi : r ≤ 3
  len : x.length ≤ e.length
  two : r < 2 → fin e 43 45 < 0 → x.length + 2 ≤ e.length
  three : r < 3 → fin e 43 45 < 0 → fin e 42 47 < 0 → x.length + 2 ≤ e.length
theorem trm_le (l : List UInt8) : (trm l).length ≤ l.length := by
  induction l with
  | nil => exact Nat.le_refl _
  | cons c t ih =>
    cases t with
    | nil => exact Nat.le_refl _
    | cons d r =>
      unfold trm
      split
      · simp only [List.length_cons] at ih ⊢; omega
      · exact Nat.le_refl _
theorem opnd_le {e : List UInt8} {p : Pt} (h : Opnd e [p]) : (wordP p).length ≤ e.length := by
  obtain ⟨h1, h2⟩ := opnd_word h
  rw [h1]
  split
  · exact trm_le e
  · have := trm_le (e.drop 1)
    simp at this ⊢
    omega
theorem brk_len (p : Pc) (k : Nat) (n : Nat) (h1 : p.1.length ≤ n) (h2 : p.2 < k → p.1.length + 2 ≤ n) : (brk p k).length ≤ n := by
  unfold brk
  split
  · rename_i h; have := h2 h; simp; omega
  · exact h1
theorem cut_126 {e : List UInt8} (h : (cut e).1 = 126) : ∃ c : UInt8, (c.toNat : Int) = 45 ∧ e = c :: (cut e).2.2 ∧ fin e 43 45 < 0 ∧ fin e 42 47 < 0 := by
  have g1 := fin_ge e 43 45
  have g2 := fin_ge e 42 47
  have hn : ¬ 0 < cutAt e := by
    intro hp
    have ho : opB (cut e).1 = true := by
      have hz1 := fin_zero e 43 45
      by_cases h1 : fin e 43 45 < 0
      · have hca : cutAt e = fin e 42 47 := by unfold cutAt; rw [if_pos h1]
        rw [hca] at hp
        obtain ⟨x, c, r, he, hl, hd, hab, hop, hf⟩ := finGo_hit 42 47 e (-1) 0 (-1) 0 (fin e 42 47) (by omega) (by omega) rfl (by omega)
        have := cut_join x c r (by omega) (by rw [← he, hca]; omega)
        rw [he, this]; exact hop
      · have hca : cutAt e = fin e 43 45 := by unfold cutAt; rw [if_neg h1]
        rw [hca] at hp
        obtain ⟨x, c, r, he, hl, hd, hab, hop, hf⟩ := finGo_hit 43 45 e (-1) 0 (-1) 0 (fin e 43 45) (by omega) (by omega) rfl (by omega)
        have := cut_join x c r (by omega) (by rw [← he, hca]; omega)
        rw [he, this]; exact hop
    rw [h] at ho
    simp [opB] at ho
  have hz1 := fin_zero e 43 45
  have hz2 := fin_zero e 42 47
  have hf : fin e 43 45 < 0 ∧ fin e 42 47 < 0 := by
    unfold cutAt at hn
    split at hn <;> omega
  unfold cut at h ⊢
  rw [if_neg hn] at h ⊢
  split at h
  · rename_i hc
    rw [if_pos hc]
    match e, hc with
    | c :: t, hc => exact ⟨c, by simpa using hc.2, by simp, hf⟩
  · split at h <;> simp at h
theorem cut_40 {e : List UInt8} (h : (cut e).1 = 40) : (cut e).2.2.length + 2 ≤ e.length := by
  unfold cut at h ⊢
  split at h
  · rename_i hp
    exfalso
    have hb : opB (cut e).1 = true := by
      have hz1 := fin_zero e 43 45
      by_cases h1 : fin e 43 45 < 0
      · have hca : cutAt e = fin e 42 47 := by unfold cutAt; rw [if_pos h1]
        rw [hca] at hp
        obtain ⟨x, c, r, he, hl, hd, hab, hop, hf⟩ := finGo_hit 42 47 e (-1) 0 (-1) 0 (fin e 42 47) (by omega) (by omega) rfl (by omega)
        have := cut_join x c r (by omega) (by rw [← he, hca]; omega)
        rw [he, this]; exact hop
      · have hca : cutAt e = fin e 43 45 := by unfold cutAt; rw [if_neg h1]
        rw [hca] at hp
        obtain ⟨x, c, r, he, hl, hd, hab, hop, hf⟩ := finGo_hit 43 45 e (-1) 0 (-1) 0 (fin e 43 45) (by omega) (by omega) rfl (by omega)
        have := cut_join x c r (by omega) (by rw [← he, hca]; omega)
        rw [he, this]; exact hop
    unfold cut at hb
    rw [if_pos hp, h] at hb
    simp [opB] at hb
  · rename_i hp
    rw [if_neg hp]
    split at h
    · simp at h
    · rename_i h2
      rw [if_neg h2]
      split at h
      · rename_i h3
        rw [if_pos h3]
        simp
        omega
      · simp at h
/-- The plain form of a row is no longer than the row. -/
theorem wf_short {n : Nat} : ∀ {e : List UInt8} {ps : List Pt}, Wf n e ps → ∃ x r, ShowR ps (x, r) ∧ Shrt e x r := by
  induction n with
  | zero => intro e ps h; exact absurd h (by simp [Wf])
  | succ n ih =>
    intro e ps h
    rcases h with ⟨_, h⟩ | ⟨h1, h2⟩ | ⟨h1, p, h2, rfl⟩ | ⟨h1, p, q, h2, h3, rfl⟩
    · obtain ⟨p, rfl, hp⟩ := opnd_opd h
      exact ⟨_, 3, showR_leaf hp, by omega, by omega, opnd_le h, by omega, by omega⟩
    · obtain ⟨x, r, hx, hs⟩ := ih h2
      have hl := cut_40 h1
      have := hs.len
      exact ⟨x, r, hx, hs.lo, hs.hi, by omega, fun _ _ => by omega, fun _ _ _ => by omega⟩
    · obtain ⟨x, r, hx, hs⟩ := ih h2
      obtain ⟨c, hc, he, f1, f2⟩ := cut_126 h1
      rw [he] at f1 f2
      have g1 := fin_neg _ c hc _ _ f1
      have g2 := fin_neg _ c hc _ _ f2
      have hb := brk_len (x, r) 3 _ hs.len (fun hr => hs.three hr g1 g2)
      have hl : e.length = (cut e).2.2.length + 1 := by rw [congrArg List.length he]; simp
      exact ⟨_, 3, showR_neg hx, by omega, by omega, by simp; omega, by omega, by omega⟩
    · obtain ⟨x, r, hx, hs⟩ := ih h2
      obtain ⟨y, t, hy, ht⟩ := ih h3
      obtain ⟨c, he, hc, hk⟩ := cut_bin h1
      have hl : e.length = (cut e).2.1.length + 1 + (cut e).2.2.length := by rw [congrArg List.length he]; simp; omega
      refine ⟨_, _, showR_bin h1 hx hy, ?_⟩
      rw [hc]
      have lo := hs.lo
      rcases hk with ⟨f, hcc, g⟩ | ⟨f, f', hcc, g1, g2, g3⟩
      · have hr : rkS (c.toNat : Int) = 1 := by rcases hcc with h | h <;> rw [h] <;> rfl
        rw [hr]
        have hb1 := brk_len (x, r) 1 _ hs.len (fun hr => by simp at hr; omega)
        have hb2 := brk_len (y, t) 2 _ ht.len (fun hr => ht.two hr g)
        exact ⟨by omega, by omega, by simp; omega, fun _ _ => by omega, fun _ _ => by omega⟩
      · have hr : rkS (c.toNat : Int) = 2 := by rcases hcc with h | h <;> rw [h] <;> rfl
        rw [hr]
        have hb1 := brk_len (x, r) 2 _ hs.len (fun hr => hs.two hr g1)
        have hb2 := brk_len (y, t) 3 _ ht.len (fun hr => ht.three hr g2 g3)
        exact ⟨by omega, by omega, by simp; omega, fun _ _ => by omega, fun _ _ _ => by omega⟩
end Db
namespace Db
open Go

theorem nob : Blanks [] := fun c hc => by cases hc
theorem dec_bd {n k : Nat} (h : n < 10 ^ k) (hk : 1 ≤ k) : 1 ≤ (Lib.decDigits n).length ∧ (Lib.decDigits n).length ≤ k := by
  have hf := dec_facts n
  refine ⟨by have := List.length_pos_iff.2 hf.2.2.1; omega, ?_⟩
  by_cases h1 : 1 ≤ n
  · have h2 := (hf.2.2.2 h1).1
    by_cases hl : (Lib.decDigits n).length ≤ k
    · exact hl
    · have h3 : 10 ^ k ≤ 10 ^ ((Lib.decDigits n).length - 1) := Nat.pow_le_pow_right (by omega) (by omega)
      omega
  · obtain rfl : n = 0 := by omega
    rw [Lib.decDigits_one (by omega)]; simpa using hk
theorem val_bd (l : List UInt8) (h : ∀ c ∈ l, digB c.toNat = true) : (val l).toNat < 10 ^ l.length := by
  have key : ∀ (r : List UInt8), (∀ c ∈ r, digB c.toNat = true) → (val r.reverse).toNat < 10 ^ r.length := by
    intro r
    induction r with
    | nil => intro _; show (0 : Int).toNat < 1; simp
    | cons c t ih =>
      intro hd
      have hc := hd c (by simp)
      simp [digB] at hc
      have hi := ih (fun x hx => hd x (by simp [hx]))
      have hp := val_pos t.reverse (fun x hx => hd x (by simp at hx; simp [hx]))
      have hv : val (t.reverse ++ [c]) = 10 * val t.reverse + ((c.toNat : Int) - 48) := valGo_snoc' t.reverse c 0
      rw [List.reverse_cons, hv, List.length_cons, Nat.pow_succ]
      omega
  have := key l.reverse (fun c hc => h c (by simpa using hc))
  simpa using this
theorem word_num {n : Nat} (h : n < 10 ^ 18) {l' : List UInt8} (hl : digB (hd l') = false) : Fac (Lib.decDigits n ++ l') true l' [(48, (n : Int))] := by
  have hf := dec_facts n
  have hn := dec_bd h (by omega)
  have := fac_opnd (e := Lib.decDigits n) (l' := l') (ps := [(48, val (Lib.decDigits n))]) (.inl ⟨hn.1, hn.2, hf.1, rfl⟩) (fun d k i => plc_number _ hf.1 hn.1 hn.2 l' (.inr hl) d k i)
  rw [hf.2.1] at this
  exact this
theorem word_sel {c : UInt8} {n : Nat} (hc : selB c.toNat = true) (h : n < 10 ^ 2) {l' : List UInt8} (hl : digB (hd l') = false) : Fac (c :: (Lib.decDigits n ++ l')) true l' [((c.toNat : Int), (n : Int))] := by
  have hf := dec_facts n
  have hn := dec_bd h (by omega)
  have := fac_opnd (e := c :: Lib.decDigits n) (l' := l') (ps := [((c.toNat : Int), val (Lib.decDigits n))]) (.inr ⟨c, _, rfl, hn.1, hf.1, .inl ⟨hc, hn.2⟩, rfl⟩) (fun d k i => by
    rw [List.cons_append, plc_sel1 hc, plc_sel _ hf.1 hn.1 hn.2 l' (.inr hl)]
    congr 1
    simp; omega)
  rw [hf.2.1] at this
  exact this
theorem word_old {c : UInt8} {n : Nat} (hc : oldB c.toNat = true) (h : n < 10 ^ 1) {l' : List UInt8} : Fac (c :: (Lib.decDigits n ++ l')) true l' [((c.toNat : Int), (n : Int))] := by
  have hf := dec_facts n
  have hn := dec_bd h (by omega)
  obtain ⟨x, hx⟩ : ∃ x, Lib.decDigits n = [x] := List.length_eq_one_iff.1 (by omega)
  have hdx : digB x.toNat = true := hf.1 x (by rw [hx]; simp)
  have := fac_opnd (e := c :: Lib.decDigits n) (l' := l') (ps := [((c.toNat : Int), val (Lib.decDigits n))]) (.inr ⟨c, _, rfl, hn.1, hf.1, .inr ⟨hc, by omega⟩, rfl⟩) (fun d k i => by
    rw [hx]
    show plc 6 d k i (c :: x :: l') = _
    rw [plc_old1 hc, plc_old x hdx]
    congr 1
    simp; omega)
  rw [hf.2.1] at this
  exact this
/-- An operand's plain form reads back. -/
theorem opnd_back {e : List UInt8} {p : Pt} (h : Opnd e [p]) {l' : List UInt8} (hl : digB (hd l') = false) : Fac (wordP p ++ l') true l' [p] := by
  rcases h with ⟨h1, h18, hd1, he⟩ | ⟨c, ds, rfl, h1, hd1, hs, he⟩
  · simp only [List.cons.injEq, and_true] at he
    subst he
    have hp := val_pos e hd1
    have hb := val_bd e hd1
    have hle : 10 ^ e.length ≤ 10 ^ 18 := Nat.pow_le_pow_right (by omega) h18
    have hw : wordP (48, val e) = Lib.decDigits (val e).toNat := by
      unfold wordP
      show Lib.itoa (val e) = _
      rw [Lib.itoa, if_neg (by omega)]
    rw [hw]
    have := word_num (n := (val e).toNat) (by omega) hl
    rwa [Int.toNat_of_nonneg hp] at this
  · simp only [List.cons.injEq, and_true] at he
    subst he
    have hp := val_pos ds hd1
    have hb := val_bd ds hd1
    have h48 : ((c.toNat : Int) == 48) = false := by
      rw [beq_eq_false_iff_ne]; intro e0
      rcases hs with ⟨hs, _⟩ | ⟨hs, _⟩ <;> rw [e0] at hs <;> cases hs
    have hw : wordP ((c.toNat : Int), val ds) = c :: Lib.decDigits (val ds).toNat := by
      unfold wordP
      simp only [h48]
      simp only [Bool.false_eq_true, if_false]
      rw [Lib.itoa, if_neg (by omega), u8_toNat]
    rw [hw, List.cons_append]
    rcases hs with ⟨hs, hl2⟩ | ⟨hs, hl1⟩
    · have hle : 10 ^ ds.length ≤ 10 ^ 2 := Nat.pow_le_pow_right (by omega) hl2
      have := word_sel (n := (val ds).toNat) hs (by omega) hl
      rwa [Int.toNat_of_nonneg hp] at this
    · rw [hl1] at hb
      have := word_old (n := (val ds).toNat) (l' := l') hs (by omega)
      rwa [Int.toNat_of_nonneg hp] at this
/-- A piece reads back. -/
structure Back (ps : List Pt) (x : List UInt8) (r : Nat) : Prop where
  lo : 1 ≤ r
  fac : 3 ≤ r → ∀ l', digB (hd l') = false → Fac (x ++ l') true l' ps
  trm : 2 ≤ r → ∀ l', digB (hd l') = false → Got TrmS (fun _ => True) (x ++ l') true l' ps
  exp : ∀ l', digB (hd l') = false → ¬ hd l' = 32 → ¬ hd l' = 42 → ¬ hd l' = 47 → Got ExpS (fun _ => True) (x ++ l') true l' ps
  nobl : ∀ c ∈ x, ¬ c.toNat = 32
theorem back_trm {ps : List Pt} {x : List UInt8} {r : Nat} (lo : 1 ≤ r) (hf : 3 ≤ r → ∀ l', digB (hd l') = false → Fac (x ++ l') true l' ps) (h : ∀ l', digB (hd l') = false → Got TrmS (fun _ => True) (x ++ l') true l' ps) (hb : ∀ c ∈ x, ¬ c.toNat = 32) : Back ps x r :=
  ⟨lo, hf, fun _ => h, fun l' h1 h2 h3 h4 => got_any (exp_trm (trm_end (h l' h1) ⟨h2, h3, h4⟩)), hb⟩
theorem back_fac {ps : List Pt} {x : List UInt8} (h : ∀ l', digB (hd l') = false → Fac (x ++ l') true l' ps) (hb : ∀ c ∈ x, ¬ c.toNat = 32) : Back ps x 3 :=
  back_trm (by omega) (fun _ => h) (fun l' h1 => trm_fac (x := []) (h l' h1) nob) hb
theorem Back.par {ps : List Pt} {x : List UInt8} {r : Nat} (h : Back ps x r) (l' : List UInt8) : Fac (40 :: (x ++ [41]) ++ l') true l' ps := by
  have h41 : hd (41 :: l') = 41 := rfl
  have e := h.exp (41 :: l') rfl (by rw [h41]; decide) (by rw [h41]; decide) (by rw [h41]; decide)
  have := fac_par_yes (c := 40) (e := 41) rfl rfl (l := x ++ 41 :: l') (l' := l') (ps := ps) (trm_end e ⟨by rw [h41]; decide, by rw [h41]; decide⟩)
  simpa using this
theorem Back.brk3 {ps : List Pt} {x : List UInt8} {r : Nat} (h : Back ps x r) {l' : List UInt8} (hl : digB (hd l') = false) : Fac (brk (x, r) 3 ++ l') true l' ps := by
  unfold brk
  split
  · exact h.par l'
  · rename_i h3; exact h.fac (by simp at h3; omega) l' hl
theorem Back.brk2 {ps : List Pt} {x : List UInt8} {r : Nat} (h : Back ps x r) {l' : List UInt8} (hl : digB (hd l') = false) : Got TrmS (fun _ => True) (brk (x, r) 2 ++ l') true l' ps := by
  unfold brk
  split
  · exact trm_fac (x := []) (h.par l') nob
  · rename_i h3; exact h.trm (by simp at h3; omega) l' hl
theorem brk1 {x : List UInt8} {r : Nat} (h : 1 ≤ r) : brk (x, r) 1 = x := by
  unfold brk
  rw [if_neg (by simp; omega)]
theorem brk_nobl {x : List UInt8} {r k : Nat} (h : ∀ c ∈ x, ¬ c.toNat = 32) : ∀ c ∈ brk (x, r) k, ¬ c.toNat = 32 := by
  intro c hc
  unfold brk at hc
  split at hc
  · simp only [List.mem_cons, List.mem_append, List.not_mem_nil, or_false] at hc
    rcases hc with rfl | hc | rfl
    · decide
    · exact h c hc
    · decide
  · exact h c hc
theorem opB_b {s : Int} (h : opB s = true) : ((u8 s).toNat : Int) = s := by
  simp [opB] at h
  rcases h with ((rfl | rfl) | rfl) | rfl <;> rfl
theorem wf_back {n : Nat} : ∀ {e : List UInt8} {ps : List Pt}, Wf n e ps → ∃ x r, ShowR ps (x, r) ∧ Back ps x r := by
  induction n with
  | zero => intro e ps h; exact absurd h (by simp [Wf])
  | succ n ih =>
    intro e ps h
    rcases h with ⟨_, h⟩ | ⟨h1, h2⟩ | ⟨h1, p, h2, rfl⟩ | ⟨h1, p, q, h2, h3, rfl⟩
    · obtain ⟨p, rfl, hp⟩ := opnd_opd h
      refine ⟨_, 3, showR_leaf hp, back_fac (fun l' hl => opnd_back h hl) ?_⟩
      have hw := (opnd_word h).1
      have hb := opnd_back h (l' := []) rfl
      obtain ⟨y, hy, hg, _⟩ := hb
      rw [List.append_nil, List.append_nil] at hy
      intro c hc h32
      have hch := (opnd_shape h).1.chars
      have tr : ∀ l : List UInt8, ∀ c ∈ trm l, c ∈ l := by
        intro l
        induction l with
        | nil => intro c hc; exact hc
        | cons a t iht =>
          cases t with
          | nil => intro c hc; exact hc
          | cons b r =>
            intro c hc
            unfold trm at hc
            split at hc
            · exact List.mem_cons_of_mem _ (iht c hc)
            · exact hc
      refine (hch c ?_).1 h32
      rw [hw] at hc
      split at hc
      · exact tr e c hc
      · rw [List.mem_append] at hc
        rcases hc with hc | hc
        · exact List.mem_of_mem_take hc
        · exact List.mem_of_mem_drop (tr _ c hc)
    · exact ih h2
    · obtain ⟨x, r, hx, hb⟩ := ih h2
      refine ⟨_, 3, showR_neg hx, back_fac (fun l' hl => fac_neg (c := 45) rfl (hb.brk3 hl)) ?_⟩
      intro c hc
      rw [List.mem_cons] at hc
      rcases hc with rfl | hc
      · decide
      · exact brk_nobl hb.nobl c hc
    · obtain ⟨x, r, hx, hb⟩ := ih h2
      obtain ⟨y, t, hy, hc⟩ := ih h3
      have ho := opB_b h1
      have hdo : ∀ l : List UInt8, hd (u8 (cut e).1 :: l) = (cut e).1 := fun l => ho
      have hoc := op_c h1
      have hnb : ∀ k j, ∀ c ∈ brk (x, r) k ++ u8 (cut e).1 :: brk (y, t) j, ¬ c.toNat = 32 := by
        intro k j c hcm
        rw [List.mem_append, List.mem_cons] at hcm
        rcases hcm with h | rfl | h
        · exact brk_nobl hb.nobl c h
        · have := hoc.1; omega
        · exact brk_nobl hc.nobl c h
      refine ⟨_, _, showR_bin h1 hx hy, ?_⟩
      have h4 := h1
      simp [opB] at h4
      by_cases hk : (cut e).1 = 42 ∨ (cut e).1 = 47
      · have hr : rkS (cut e).1 = 2 := by rcases hk with h | h <;> rw [h] <;> rfl
        rw [hr]
        refine back_trm (by omega) (by omega) (fun l' hl => ?_) (hnb _ _)
        have := trm_mul (o := u8 (cut e).1) (by rw [ho]; exact hk) (hb.brk2 (l' := u8 (cut e).1 :: (brk (y, t) 3 ++ l')) (by rw [hdo]; exact hoc.2.2.2.2.1)) (x := []) (l' := l') (hc.brk3 hl) nob
        rw [ho] at this
        simpa using this
      · have hk2 : (cut e).1 = 43 ∨ (cut e).1 = 45 := by omega
        have hr : rkS (cut e).1 = 1 := by rcases hk2 with h | h <;> rw [h] <;> rfl
        rw [hr]
        refine ⟨by omega, by omega, by omega, fun l' g1 g2 g3 g4 => ?_, hnb _ _⟩
        rw [brk1 hb.lo]
        have a := hb.exp (u8 (cut e).1 :: (brk (y, t) 2 ++ l')) (by rw [hdo]; exact hoc.2.2.2.2.1) (by rw [hdo]; exact hoc.1) (by rw [hdo]; omega) (by rw [hdo]; omega)
        have := exp_add (o := u8 (cut e).1) (by rw [ho]; exact hk2) a (trm_end (hc.brk2 g1) ⟨g2, g3, g4⟩)
        rw [ho] at this
        have := got_any this
        simpa using this
end Db
namespace Go.Proofs.YtdchbenfccofpabGreatDoor
open Go.RowKit Db

set_option maxRecDepth 100000 in
set_option maxHeartbeats 1000000 in
theorem signText_any (s : UInt8) (w : World) :
    Calls Tryz.prog 98 #[.int .u8 (s.toNat : Int)] w fun e w' => ∃ u : ByteArray, e = .returned (.string u) ∧ L u = [s] ∧ Below w.heap.size w w' := by
  have hcv : (convert 64 9 (.slice (some ⟨w.heap.size, 0, none⟩) 1 1)).run Tryz.prog (w.alloc (.cells #[.int .u8 (s.toNat : Int)] 5)) = .ok (.string ⟨#[s]⟩) (w.alloc (.cells #[.int .u8 (s.toNat : Int)] 5)) := by
    have := run_convert_bytes_back (P := Tryz.prog) (w.alloc (.cells #[.int .u8 (s.toNat : Int)] 5)) 64 9 5 ⟨w.heap.size, 0, none⟩ 1 [s] Tryz.underlying64 Tryz.underlying5 Tryz.underlying9 (fun j hj => by
      have h0 : j = 0 := by simpa using hj
      subst h0
      exact cell_one_new w _ _ 0 _ rfl)
    exact this
  go_enter Tryz.func98, Tryz.ntmps98
  go_wp2_with fail
  go_ret
  exact ⟨⟨#[s]⟩, rfl, rfl, (Below.refl _ _).alloc (Nat.le_refl _) _⟩

set_option maxHeartbeats 1000000 in
theorem bracketed_any (x : ByteArray) (r : Nat) (k : Int) (w : World) (hx : x.size ≤ 1000000) :
    Calls Tryz.prog 99 #[.agg #[.string x, .int .i64 (r : Int)], .int .i64 k] w fun e w' => ∃ u : ByteArray, e = .returned (.string u) ∧ L u = brk (L x, r) k.toNat ∧ Below w.heap.size w w' := by
  by_cases h : (r : Int) < k
  · have Hb : Hid (brk (L x, r) k.toNat = 40 :: (L x ++ [41])) := by show _ = _; unfold brk; rw [if_pos (by simp; omega)]
    go_enter Tryz.func99, Tryz.ntmps99
    go_wp2_with fail
    go_ret
    refine ⟨_, rfl, ?_, (Below.refl _ _).alloc (Nat.le_refl _) _⟩
    rw [unhide Hb]; simp [L]
  · have Hb : Hid (brk (L x, r) k.toNat = L x) := by show _ = _; unfold brk; rw [if_neg (by simp; omega)]
    go_enter Tryz.func99, Tryz.ntmps99
    go_wp2_with fail
    go_ret
    exact ⟨x, rfl, (unhide Hb).symm, (Below.refl _ _).alloc (Nat.le_refl _) _⟩

end Go.Proofs.YtdchbenfccofpabGreatDoor
namespace Go.Proofs.YtdchbenfccofpabGreatDoor
open Go.RowKit Db

theorem retI {k : IntKind} {a b : Int} (h : a = b) : Ending.returned (.int k a) = .returned (.int k b) := by rw [h]
/-- The cells of parts. -/
def cellsP (ps : List Pt) : List Value := ps.flatMap fun p => [.int .u8 p.1, .int .i64 p.2]
theorem cellsP_append (p q : List Pt) : cellsP (p ++ q) = cellsP p ++ cellsP q := by simp [cellsP]
theorem cellsP_length (p : List Pt) : (cellsP p).length = p.length * 2 := by
  induction p with
  | nil => rfl
  | cons x t ih => simp [cellsP] at ih ⊢; omega

/-- The reader lies in block b: its text, its place, its parts. -/
structure Rd (w : World) (b : Nat) (t : ByteArray) (at_ : Nat) (v : Value) (ps : List Pt) : Prop where
  blk : Blk w b #[.string t, .int .i64 at_, v] 140
  own : w.ownsRow (b + 1) 146 2 v ps.length (cellsP ps)
  le : at_ ≤ t.size
  cnt : ps.length ≤ at_
  sz : t.size ≤ 200

/-- The blocks that the reader's calls may write. -/
def XR (b : Nat) (v : Value) (k : Nat) : Prop := k = b ∨ some k = v.ownBlock
/-- From w to w' the reader's calls have been at work. -/
structure RdR (b : Nat) (t : ByteArray) (v : Value) (w w' : World) (at_ : Nat) (v' : Value) (ps : List Pt) : Prop where
  rd : Rd w' b t at_ v' ps
  frm : Frm w.heap.size (XR b v) w w'
  own : v'.ownBlock = v.ownBlock ∨ ∀ k, v'.ownBlock = some k → w.heap.size ≤ k

theorem RdR.refl {b : Nat} {t : ByteArray} {v : Value} {w : World} {at_ : Nat} {ps : List Pt} (h : Rd w b t at_ v ps) : RdR b t v w w at_ v ps := ⟨h, Frm.refl _ _ _, .inl rfl⟩
theorem RdR.trans {b : Nat} {t : ByteArray} {v v1 v2 : Value} {w w1 w2 : World} {a1 a2 : Nat} {p1 p2 : List Pt} (h : RdR b t v w w1 a1 v1 p1) (k : RdR b t v1 w1 w2 a2 v2 p2) : RdR b t v w w2 a2 v2 p2 := by
  refine ⟨k.rd, h.frm.trans (k.frm.mono h.frm.size ?_), ?_⟩
  · intro j hj hx
    rcases hx with hx | hx
    · exact .inl hx
    · rcases h.own with e | e
      · exact .inr (by rw [← e]; exact hx)
      · have := e j hx.symm; omega
  · rcases k.own with e | e
    · rcases h.own with f | f
      · exact .inl (e.trans f)
      · exact .inr (fun j hj => f j (e ▸ hj))
    · exact .inr (fun j hj => Nat.le_trans h.frm.size (e j hj))
/-- The reader moved its place; nothing else is turned. -/
theorem Rd.move {b : Nat} {t : ByteArray} {v : Value} {w w1 : World} {a a' : Nat} {ps : List Pt} (h : Rd w b t a v ps) (hb : Below w.heap.size w w1) (ha : a' ≤ t.size) (hc : ps.length ≤ a') : RdR b t v w (w1.setCell ⟨b, 1, none⟩ (.int .i64 a')) a' v ps := by
  refine ⟨⟨?_, ?_, ha, hc, h.sz⟩, ?_, .inl rfl⟩
  · have := (h.blk.kept hb).set 1 (.int .i64 a')
    simpa using this
  · exact ownsRow_setCell_below (ownsRow_below h.own hb) (by simp) _
  · exact hb.frm.setCell (.inr (.inl rfl)) _
theorem Rd.draws {b : Nat} {t : ByteArray} {v : Value} {w : World} {a : Nat} {ps : List Pt} (h : Rd w b t a v ps) (n : Nat) : RdR b t v w (w.drewN n) a v ps :=
  ⟨⟨h.blk, h.own, h.le, h.cnt, h.sz⟩, (Frm.refl _ _ _).drewN n, .inl rfl⟩
theorem RdR.draws {b : Nat} {t : ByteArray} {v v' : Value} {w w1 : World} {a : Nat} {ps : List Pt} (h : RdR b t v w w1 a v' ps) (n : Nat) : RdR b t v w (w1.drewN n) a v' ps := h.trans (h.rd.draws n)
theorem Rd.below {b : Nat} {t : ByteArray} {v : Value} {w w1 : World} {a : Nat} {ps : List Pt} (h : Rd w b t a v ps) (hb : Below w.heap.size w w1) : RdR b t v w w1 a v ps :=
  ⟨⟨h.blk.kept hb, ownsRow_below h.own hb, h.le, h.cnt, h.sz⟩, hb.frm, .inl rfl⟩
theorem RdR.move {b : Nat} {t : ByteArray} {v v' : Value} {w w1 : World} {a a' : Nat} {ps : List Pt} (h : RdR b t v w w1 a v' ps) (ha : a' ≤ t.size) (hc : ps.length ≤ a') : RdR b t v w (w1.setCell ⟨b, 1, none⟩ (.int .i64 a')) a' v' ps := h.trans (h.rd.move (Below.refl _ _) ha hc)

/-- The three cells, as the walk wants them. -/
theorem Rd.c0 {w : World} {b : Nat} {t : ByteArray} {a : Nat} {v : Value} {ps : List Pt} (h : Rd w b t a v ps) : w.cell? ⟨b, 0, none⟩ = some (.string t) := h.blk.cell 0
theorem Rd.c1 {w : World} {b : Nat} {t : ByteArray} {a : Nat} {v : Value} {ps : List Pt} (h : Rd w b t a v ps) : w.cell? ⟨b, 1, none⟩ = some (.int .i64 a) := h.blk.cell 1
theorem Rd.c2 {w : World} {b : Nat} {t : ByteArray} {a : Nat} {v : Value} {ps : List Pt} (h : Rd w b t a v ps) : w.cell? ⟨b, 2, none⟩ = some v := h.blk.cell 2
theorem Rd.z1 {w : World} {b : Nat} {t : ByteArray} {a : Nat} {v : Value} {ps : List Pt} (h : Rd w b t a v ps) : w.frozen? ⟨b, 1, none⟩ = false := h.blk.frozen 1
theorem Rd.z2 {w : World} {b : Nat} {t : ByteArray} {a : Nat} {v : Value} {ps : List Pt} (h : Rd w b t a v ps) : w.frozen? ⟨b, 2, none⟩ = false := h.blk.frozen 2

theorem blanks_snoc (t : ByteArray) (p k : Nat) (x : List UInt8) (hk : k < t.size) (h32 : t[k].toNat = 32) (h : (L t).drop p = x ++ (L t).drop k) (hx : Blanks x) : (L t).drop p = (x ++ [t[k]]) ++ (L t).drop (k + 1) ∧ Blanks (x ++ [t[k]]) := by
  refine ⟨by rw [h, L_drop t k hk]; simp, ?_⟩
  intro c hc
  simp at hc
  rcases hc with hc | rfl
  · exact hx c hc
  · exact h32
theorem hd_drop (t : ByteArray) (k : Nat) (hk : k < t.size) : hd ((L t).drop k) = (t[k].toNat : Int) := by rw [L_drop t k hk]; rfl
theorem hd_end (t : ByteArray) (k : Nat) (hk : t.size ≤ k) : hd ((L t).drop k) = 0 := by rw [L_drop_end t k hk]; rfl

set_option maxHeartbeats 1000000 in
theorem skipBlanks_any (b : Nat) (t : ByteArray) (p : Nat) (v : Value) (ps : List Pt) (w : World) (h : Rd w b t p v ps) :
    Calls Tryz.prog 130 #[.pointer (some ⟨b, 0, none⟩)] w fun e w' => e = .returned (.tuple #[]) ∧ ∃ p' x, p ≤ p' ∧ RdR b t v w w' p' v ps ∧ (L t).drop p = x ++ (L t).drop p' ∧ Blanks x ∧ ¬ hd ((L t).drop p') = 32 := by
  have H := hide h
  have hsz := h.sz
  clear h
  go_enter Tryz.func130, Tryz.ntmps130
  go_wp2_with fail
  go_loopg [] (t.size - p) (fun m wr => ∃ k x, p ≤ k ∧ k ≤ t.size ∧ m = t.size - k ∧ Hid (RdR b t v w wr k v ps) ∧ Hid ((L t).drop p = x ++ (L t).drop k) ∧ Hid (Blanks x))
  case atStart => exact ⟨p, [], Nat.le_refl _, (unhide H).le, rfl, RdR.refl (unhide H), rfl, by intro c hc; cases hc⟩
  case round =>
    obtain ⟨k, x, hpk, hk, rfl, Hr, Hx, Hb⟩ := hrel
    have c0 := (unhide Hr).rd.c0
    have c1 := (unhide Hr).rd.c1
    have z1 := (unhide Hr).rd.z1
    by_cases hlt : k < t.size
    · have d1 : decide ((k : Int) < (t.size : Int)) = true := by simp; omega
      by_cases h32 : t[k].toNat = 32
      · have e32 : ((t[k].toNat : Int) == 32) = true := by simp; omega
        have Hs := hide (blanks_snoc t p k x hlt h32 (unhide Hx) (unhide Hb))
        go_wp2_with fail
        go_quiet (fail)
        go_wp2_with fail
        go_roundg (t.size - (k + 1))
        case measure => omega
        case rel =>
          refine ⟨k + 1, _, by omega, by omega, rfl, ?_, (unhide Hs).1, (unhide Hs).2⟩
          have := ((unhide Hr).draws nq).move (a' := k + 1) (by omega) (by have := (unhide Hr).rd.cnt; omega)
          show RdR _ _ _ _ _ _ _ _
          simpa using this
      · have e32 : ((t[k].toNat : Int) == 32) = false := by simp; omega
        have Hn : Hid (¬ hd ((L t).drop k) = 32) := by show ¬ _; rw [hd_drop t k hlt]; omega
        go_wp2_with fail
        go_quiet (fail)
        go_wp2_with fail
        go_end0
        exact ⟨rfl, k, x, hpk, (unhide Hr).draws _, unhide Hx, unhide Hb, unhide Hn⟩
    · have d1 : decide ((k : Int) < (t.size : Int)) = false := by simp; omega
      have Hn : Hid (¬ hd ((L t).drop k) = 32) := by show ¬ _; rw [hd_end t k (by omega)]; omega
      go_wp2_with fail
      go_quiet (fail)
      go_wp2_with fail
      go_end0
      exact ⟨rfl, k, x, hpk, (unhide Hr).draws _, unhide Hx, unhide Hb, unhide Hn⟩

/-- What stands behind the blanks. -/
structure Skp (t : ByteArray) (p p' : Nat) (x : List UInt8) : Prop where
  le : p ≤ p'
  eq : (L t).drop p = x ++ (L t).drop p'
  bl : Blanks x
  nb : ¬ hd ((L t).drop p') = 32

set_option maxHeartbeats 1000000 in
theorem next_any (b : Nat) (t : ByteArray) (p : Nat) (v : Value) (ps : List Pt) (w : World) (h : Rd w b t p v ps) :
    Calls Tryz.prog 113 #[.pointer (some ⟨b, 0, none⟩)] w fun e w' => ∃ p' x, e = .returned (.int .u8 (hd ((L t).drop p'))) ∧ RdR b t v w w' p' v ps ∧ Skp t p p' x := by
  have H := hide h
  have hsz := h.sz
  clear h
  go_enter Tryz.func113, Tryz.ntmps113
  go_wp2_with fail
  refine (skipBlanks_any b t p v ps _ (unhide H)).mono ?_
  rintro e w1 ⟨rfl, p', x, hp, hr, hx, hb, hn⟩
  have c0 := hr.rd.c0
  have c1 := hr.rd.c1
  have Hr := hide hr
  have Hs : Hid (Skp t p p' x) := ⟨hp, hx, hb, hn⟩
  clear hr hx hb hn hp
  by_cases hlt : p' < t.size
  · have d1 : decide ((p' : Int) < (t.size : Int)) = true := by simp; omega
    have Hh := hide (hd_drop t p' hlt)
    go_wp2_with fail
    go_quiet (fail)
    go_wp2_with fail
    go_quiet (fail)
    go_wp2_with fail
    go_ret
    exact ⟨p', x, retI (unhide Hh).symm, ((unhide Hr).draws _).draws _, unhide Hs⟩
  · have d1 : decide ((p' : Int) < (t.size : Int)) = false := by simp; omega
    have Hh := hide (hd_end t p' (by omega))
    go_wp2_with fail
    go_quiet (fail)
    go_wp2_with fail
    go_ret
    exact ⟨p', x, retI (unhide Hh).symm, (unhide Hr).draws _, unhide Hs⟩

set_option maxHeartbeats 1000000 in
theorem accept_any (b : Nat) (t : ByteArray) (p : Nat) (v : Value) (ps : List Pt) (c : Int) (w : World) (h : Rd w b t p v ps) (hc : 0 < c) :
    Calls Tryz.prog 93 #[.pointer (some ⟨b, 0, none⟩), .int .u8 c] w fun e w' => ∃ p' x, Skp t p p' x ∧
      ((¬ hd ((L t).drop p') = c ∧ e = .returned (.bool false) ∧ RdR b t v w w' p' v ps) ∨ (∃ y, (y.toNat : Int) = c ∧ (L t).drop p' = y :: (L t).drop (p' + 1) ∧ e = .returned (.bool true) ∧ RdR b t v w w' (p' + 1) v ps)) := by
  have H := hide h
  have hsz := h.sz
  clear h
  go_enter Tryz.func93, Tryz.ntmps93
  go_wp2_with fail
  refine (next_any b t p v ps _ (unhide H)).mono ?_
  rintro e w1 ⟨p', x, rfl, hr, hs⟩
  have c1 := hr.rd.c1
  have z1 := hr.rd.z1
  have hle := hr.rd.le
  have Hr := hide hr
  have Hs := hide hs
  clear hr hs
  obtain ⟨y, hy⟩ : ∃ y, hd ((L t).drop p') = y := ⟨_, rfl⟩
  rw [hy]
  have Hy := hide hy
  clear hy
  by_cases hyc : y = c
  · have e1 : (y != c) = false := by simp [hyc]
    have hlt : p' < t.size := by
      have := unhide Hy
      by_cases h : p' < t.size
      · exact h
      · rw [hd_end t p' (by omega)] at this; omega
    have Hl := hide (L_drop t p' hlt)
    have Hyc : Hid ((t[p'].toNat : Int) = c) := by show _ = _; rw [← hd_drop t p' hlt, unhide Hy, hyc]
    clear hyc
    go_wp2_with fail
    go_ret
    refine ⟨p', x, unhide Hs, .inr ⟨t[p'], unhide Hyc, unhide Hl, rfl, ?_⟩⟩
    have := (unhide Hr).move (a' := p' + 1) (by omega) (by have := (unhide Hr).rd.cnt; omega)
    simpa using this
  · have e1 : (y != c) = true := by simp [bne, hyc]
    have Hyc := hide hyc
    go_wp2_with fail
    go_ret
    exact ⟨p', x, unhide Hs, .inl ⟨by rw [unhide Hy]; exact unhide Hyc, rfl, unhide Hr⟩⟩

end Go.Proofs.YtdchbenfccofpabGreatDoor
namespace Go.Proofs.YtdchbenfccofpabGreatDoor
open Go.RowKit Db

/-- Digits that were read: as many as there are, but no more than m. -/
structure Dg (m : Nat) (l ds l' : List UInt8) : Prop where
  eq : l = ds ++ l'
  dig : ∀ c ∈ ds, digB c.toNat = true
  le : ds.length ≤ m
  stop : ds.length = m ∨ digB (hd l') = false

theorem valGo_snoc (l : List UInt8) (c : UInt8) : ∀ n, valGo n (l ++ [c]) = 10 * valGo n l + ((c.toNat : Int) - 48) := by
  induction l with
  | nil => intro n; rfl
  | cons x t ih => intro n; exact ih _
theorem val_snoc (l : List UInt8) (c : UInt8) : val (l ++ [c]) = 10 * val l + ((c.toNat : Int) - 48) := valGo_snoc l c 0
theorem val_lt (l : List UInt8) (h : ∀ c ∈ l, digB c.toNat = true) : val l < 10 ^ l.length := by
  have key : ∀ (l : List UInt8), (∀ c ∈ l, digB c.toNat = true) → ∀ n k : Int, 0 ≤ n → n < k → valGo n l < k * 10 ^ l.length := by
    intro l
    induction l with
    | nil => intro _ n k _ h; simpa [valGo] using h
    | cons c r ih =>
      intro hd n k h0 h
      have hc := hd c (by simp)
      simp [digB] at hc
      have := ih (fun x hx => hd x (by simp [hx])) (10 * n + ((c.toNat : Int) - 48)) (10 * k) (by omega) (by omega)
      have e : (10 * k) * 10 ^ r.length = k * 10 ^ (c :: r).length := by
        rw [List.length_cons, Int.pow_succ]
        rw [Int.mul_comm 10 k, Int.mul_assoc, Int.mul_comm 10]
      rw [← e]
      exact this
  have := key l h 0 1 (by omega) (by omega)
  rw [Int.one_mul] at this
  exact this
theorem pow_le17 (n : Nat) (h : n ≤ 17) : (10 : Int) ^ n ≤ 100000000000000000 := by
  have : ∀ k : Nat, k ≤ 17 → (10 : Int) ^ k ≤ 10 ^ 17 := by
    intro k hk
    obtain ⟨d, hd⟩ := Nat.le.dest hk
    rw [← hd, Int.pow_add]
    have h1 : (1 : Int) ≤ 10 ^ d := by
      clear hd hk
      induction d with
      | zero => simp
      | succ d ih => rw [Int.pow_succ]; omega
    have h2 : (0 : Int) ≤ 10 ^ k := by
      clear hd hk h1
      induction k with
      | zero => simp
      | succ k ih => rw [Int.pow_succ]; omega
    calc (10 : Int) ^ k = 10 ^ k * 1 := by rw [Int.mul_one]
      _ ≤ 10 ^ k * 10 ^ d := Int.mul_le_mul_of_nonneg_left h1 h2
  exact this n h
theorem dg_bound (l : List UInt8) (h : ∀ c ∈ l, digB c.toNat = true) (hl : l.length ≤ 17) : 0 ≤ val l ∧ val l ≤ 99999999999999999 := by
  have h1 := val_pos l h
  have h2 := val_lt l h
  have h3 := pow_le17 l.length hl
  omega

set_option maxHeartbeats 1000000 in
theorem digits_any (b : Nat) (t : ByteArray) (p : Nat) (v : Value) (ps : List Pt) (m : Nat) (w : World) (h : Rd w b t p v ps) (hm : m ≤ 18) :
    Calls Tryz.prog 131 #[.pointer (some ⟨b, 0, none⟩), .int .i64 (m : Int)] w fun e w' => ∃ ds p', e = .returned (.tuple #[.int .i64 (val ds), .bool (decide (0 < ds.length))]) ∧
      Dg m ((L t).drop p) ds ((L t).drop p') ∧ p' = p + ds.length ∧ RdR b t v w w' p' v ps := by
  have H := hide h
  have hsz := h.sz
  clear h
  go_enter Tryz.func131, Tryz.ntmps131
  go_wp2_with fail
  go_loopg [6, 7] (t.size - p) (fun mm n c wr => ∃ ds k, k = p + ds.length ∧ k ≤ t.size ∧ mm = t.size - k ∧ n = .int .i64 (val ds) ∧ c = .int .i64 (ds.length : Int) ∧ ds.length ≤ m ∧ Hid (RdR b t v w wr k v ps) ∧ Hid ((L t).drop p = ds ++ (L t).drop k) ∧ Hid (∀ c ∈ ds, digB c.toNat = true))
  case atStart => exact ⟨[], p, rfl, (unhide H).le, rfl, rfl, rfl, Nat.zero_le _, RdR.refl (unhide H), rfl, by intro c hc; cases hc⟩
  case round =>
    obtain ⟨ds, k, hk, hkz, rfl, rfl, rfl, hdm, Hr, Hx, Hd⟩ := hrel
    have c0 := (unhide Hr).rd.c0
    have c1 := (unhide Hr).rd.c1
    have z1 := (unhide Hr).rd.z1
    have Hk := hide hk
    clear hk
    by_cases hlm : ds.length < m
    · have d0 : decide ((ds.length : Int) < (m : Int)) = true := by simp; omega
      by_cases hlt : k < t.size
      · have d1 : decide ((k : Int) < (t.size : Int)) = true := by simp; omega
        by_cases hdig : digB (t[k].toNat : Int) = true
        · have hdd := hdig
          simp [digB] at hdd
          obtain ⟨hd1, hd2⟩ := hdd
          obtain ⟨hv0, hv1⟩ := dg_bound ds (unhide Hd) (by omega)
          have Hdig := hide hdig
          clear hdig
          go_wp2_with fail
          go_quiet (fail)
          go_wp2_with fail
          go_quiet (fail)
          go_wp2_with fail
          go_roundg (t.size - (k + 1))
          case measure => omega
          case rel =>
            refine ⟨ds ++ [t[k]], k + 1, ?_, by omega, rfl, ?_, ?_, by simp; omega, ?_, ?_, ?_⟩
            · have := unhide Hk; simp; omega
            · rw [val_snoc]; congr 1; omega
            · simp
            · have h0 := fun n => ((unhide Hr).draws n).move (a' := k + 1) (by omega) (by have := (unhide Hr).rd.cnt; omega)
              show RdR _ _ _ _ _ _ _ _
              simpa using h0 _
            · show _ = _
              rw [unhide Hx, L_drop t k hlt]; simp
            · intro c hc
              simp at hc
              rcases hc with hc | rfl
              · exact unhide Hd c hc
              · exact unhide Hdig
        · have hnd : digB (t[k].toNat : Int) = false := by simpa using hdig
          have Hst : Hid (digB (hd ((L t).drop k)) = false) := by show _ = _; rw [hd_drop t k hlt]; exact hnd
          have hcs : (t[k].toNat : Int) < 48 ∨ 57 < (t[k].toNat : Int) := by simp [digB] at hnd; omega
          clear hdig hnd
          rcases hcs with hcs | hcs
          all_goals
            go_wp2_with fail
            go_quiet (fail)
            go_wp2_with fail
            go_quiet (fail)
            go_wp2_with fail
            go_ret2
            exact ⟨ds, k, rfl, ⟨unhide Hx, unhide Hd, hdm, .inr (unhide Hst)⟩, unhide Hk, (unhide Hr).draws _⟩
      · have d1 : decide ((k : Int) < (t.size : Int)) = false := by simp; omega
        have Hst : Hid (digB (hd ((L t).drop k)) = false) := by show _ = _; rw [hd_end t k (by omega)]; rfl
        go_wp2_with fail
        go_quiet (fail)
        go_wp2_with fail
        go_ret2
        exact ⟨ds, k, rfl, ⟨unhide Hx, unhide Hd, hdm, .inr (unhide Hst)⟩, unhide Hk, (unhide Hr).draws _⟩
    · have d0 : decide ((ds.length : Int) < (m : Int)) = false := by simp; omega
      go_wp2_with fail
      go_quiet (fail)
      go_wp2_with fail
      go_ret2
      exact ⟨ds, k, rfl, ⟨unhide Hx, unhide Hd, hdm, .inl (by omega)⟩, unhide Hk, (unhide Hr).draws _⟩

set_option maxHeartbeats 1000000 in
theorem day_any (b : Nat) (t : ByteArray) (p : Nat) (v : Value) (ps : List Pt) (w : World) (h : Rd w b t p v ps) :
    Calls Tryz.prog 114 #[.pointer (some ⟨b, 0, none⟩)] w fun e w' => ∃ x ds p1 p', e = .returned (.tuple #[.int .i64 (val ds), .bool (decide (0 < ds.length))]) ∧
      Skp t p p1 x ∧ Dg 3 ((L t).drop p1) ds ((L t).drop p') ∧ p' = p1 + ds.length ∧ RdR b t v w w' p' v ps := by
  have H := hide h
  clear h
  go_enter Tryz.func114, Tryz.ntmps114
  go_wp2_with fail
  refine (skipBlanks_any b t p v ps _ (unhide H)).mono ?_
  rintro e w1 ⟨rfl, p1, x, hp, hr, hx, hb, hn⟩
  have Hr := hide hr
  have Hs : Hid (Skp t p p1 x) := ⟨hp, hx, hb, hn⟩
  clear hr hx hb hn hp
  go_wp2_with fail
  refine (digits_any b t p1 v ps 3 _ (unhide Hr).rd (by omega)).mono ?_
  rintro e w2 ⟨ds, p', rfl, hd, hpe, hr2⟩
  have Hd := hide hd
  have Hpe := hide hpe
  have Hr2 := hide ((unhide Hr).trans hr2)
  clear hd hpe hr2
  go_wp2_with fail
  go_ret2
  exact ⟨x, ds, p1, p', rfl, unhide Hs, unhide Hd, unhide Hpe, unhide Hr2⟩

end Go.Proofs.YtdchbenfccofpabGreatDoor
namespace Go.Proofs.YtdchbenfccofpabGreatDoor
open Go.RowKit Db

theorem dg_day {l ds l' : List UInt8} (h : Dg 3 l ds l') (h0 : 0 < ds.length) : dayS ds := ⟨h0, h.le, h.dig⟩
theorem dg_none {m : Nat} {l ds l' : List UInt8} (h : Dg m l ds l') (h0 : ¬ 0 < ds.length) (hm : 0 < m) : digB (hd l') = false ∧ l = l' := by
  have hz : ds = [] := by cases ds with | nil => rfl | cons => simp at h0
  subst hz
  refine ⟨?_, h.eq⟩
  rcases h.stop with h | h
  · simp at h; omega
  · exact h

theorem Rd.fresh {w : World} {b : Nat} {t : ByteArray} {a : Nat} {v : Value} {ps : List Pt} (h : Rd w b t a v ps) : ∀ j, w.heap.size ≤ j → ¬ XR b v j := by
  rintro j hj (rfl | e)
  · have := h.blk.lt; omega
  · have := (h.own.lt j e.symm).2; omega
theorem ownsRow_setOther {w : World} {base : Nat} {e : TypeId} {size : Nat} {v : Value} {n : Nat} {xs : List Value} (h : w.ownsRow base e size v n xs) {a : Addr} (ha : some a.block ≠ v.ownBlock) (u : Value) : (w.setCell a u).ownsRow base e size v n xs := by
  refine ⟨h.1, ?_⟩
  rcases h.2 with hn | ⟨g, cap, cur, rfl, hbg, hgg, rest⟩
  · exact .inl hn
  · exact .inr ⟨g, cap, cur, rfl, hbg, by rw [Below.heap_setCell _ _ _ _ (fun e => ha (by rw [← e]; rfl))]; exact hgg, rest⟩
theorem RdR.localSet {b : Nat} {t : ByteArray} {v v' : Value} {w w1 : World} {a : Nat} {ps : List Pt} (h : RdR b t v w w1 a v' ps) {j : Nat} (hj : w.heap.size ≤ j) (hx : ¬ XR b v' j) (i : Nat) (u : Value) : RdR b t v w (w1.setCell ⟨j, i, none⟩ u) a v' ps :=
  ⟨⟨h.rd.blk.setOther _ _ (fun e => hx (.inl e.symm)), ownsRow_setOther h.rd.own (fun e => hx (.inr e)) _, h.rd.le, h.rd.cnt, h.rd.sz⟩, h.frm.setCell (.inl hj) _, h.own⟩

set_option maxHeartbeats 2000000 in
theorem period_any (b : Nat) (t : ByteArray) (p : Nat) (v : Value) (ps : List Pt) (w : World) (h : Rd w b t p v ps) :
    Calls Tryz.prog 94 #[.pointer (some ⟨b, 0, none⟩)] w fun e w' => ∃ ok x y p' da db, e = .returned (.tuple #[.agg #[.int .i64 x, .int .i64 y], .bool ok]) ∧
      Per ((L t).drop p) ok ((L t).drop p') da db ∧ (ok = true → x = val da ∧ y = val db) ∧ p ≤ p' ∧ RdR b t v w w' p' v ps := by
  have Hfr := hide h.fresh
  have H0 := hide (h.below ((Below.refl _ _).alloc (Nat.le_refl _) (.cells #[.int .i64 0, .int .i64 0] 114)))
  clear h
  go_enter Tryz.func94, Tryz.ntmps94
  go_wp2_with fail
  refine (day_any b t p v ps _ (unhide H0).rd).mono ?_
  rintro e w1 ⟨x1, d1, q1, p1, rfl, hs1, hg1, he1, hr1⟩
  have HB1 : Hid (Blk w1 w.heap.size #[.int .i64 0, .int .i64 0] 114) := (Blk.new _ _ _).frm hr1.frm (by simp) (unhide Hfr _ (Nat.le_refl _))
  have H1 := hide ((unhide H0).trans hr1)
  have Hs1 := hide hs1
  have Hg1 := hide hg1
  have He1 := hide he1
  have c0 := (unhide HB1).cell 0
  have c1 := (unhide HB1).cell 1
  have z0 := (unhide HB1).frozen 0
  have z1 := (unhide HB1).frozen 1
  simp only [List.getElem?_toArray, List.getElem?_cons_zero, List.getElem?_cons_succ] at c0 c1
  clear hs1 hg1 he1 hr1
  by_cases hd1 : 0 < d1.length
  · have e1 : decide (0 < d1.length) = true := decide_eq_true hd1
    rw [e1]
    clear e1
    have Hd1 := hide (dg_day (unhide Hg1) hd1)
    clear hd1
    go_wp2_with fail
    refine (accept_any b t p1 v ps 45 _ (unhide H1).rd (by omega)).mono ?_
    rintro e w2 ⟨p2, x2, hs2, ⟨hn2, rfl, hr2⟩ | ⟨y2, hy2, hl2, rfl, hr2⟩⟩
    · have HB2 := hide ((unhide HB1).frm hr2.frm (unhide HB1).lt (unhide Hfr _ (Nat.le_refl _)))
      have H2 := hide ((unhide H1).trans hr2)
      have Hs2 := hide hs2
      have Hn2 := hide hn2
      have c0 := (unhide HB2).cell 0
      have c1 := (unhide HB2).cell 1
      have z0 := (unhide HB2).frozen 0
      have z1 := (unhide HB2).frozen 1
      simp only [List.getElem?_toArray, List.getElem?_cons_zero, List.getElem?_cons_succ] at c0 c1
      clear hs2 hn2 hr2
      go_wp2_with fail
      refine bodyPost_ret (v := .tuple #[.agg #[.int .i64 0, .int .i64 0], .bool false]) (by simp [results, Tryz.results94, go_sem, c0, c1]) rfl ⟨false, 0, 0, p2, [], [], rfl, ?_, (fun h0 => by cases h0), ?_, ?_⟩
      · rw [(unhide Hs1).eq, (unhide Hg1).eq, (unhide Hs2).eq]
        exact per_no2 (unhide Hs1).bl (unhide Hd1) (by rw [← (unhide Hs2).eq]; exact (unhide Hg1).stop) (unhide Hs2).bl (unhide Hs2).nb (unhide Hn2)
      · have h1 := (unhide Hs1).le; have h2 := unhide He1; have h3 := (unhide Hs2).le; omega
      · exact ((unhide H2).localSet (Nat.le_refl _) (unhide Hfr _ (Nat.le_refl _)) _ _).localSet (Nat.le_refl _) (unhide Hfr _ (Nat.le_refl _)) _ _
    · have HB2 := hide ((unhide HB1).frm hr2.frm (unhide HB1).lt (unhide Hfr _ (Nat.le_refl _)))
      have H2 := hide ((unhide H1).trans hr2)
      have Hs2 := hide hs2
      have Hy2 := hide hy2
      have Hl2 := hide hl2
      clear hs2 hr2 hy2 hl2 c0 c1 z0 z1
      go_wp2_with fail
      refine (day_any b t (p2 + 1) v ps _ (unhide H2).rd).mono ?_
      rintro e w3 ⟨x3, d3, q3, p3, rfl, hs3, hg3, he3, hr3⟩
      have HB3 := hide ((unhide HB2).frm hr3.frm (unhide HB2).lt (unhide Hfr _ (Nat.le_refl _)))
      have H3 := hide ((unhide H2).trans hr3)
      have Hs3 := hide hs3
      have Hg3 := hide hg3
      have He3 := hide he3
      have c0 := (unhide HB3).cell 0
      have c1 := (unhide HB3).cell 1
      have z0 := (unhide HB3).frozen 0
      have z1 := (unhide HB3).frozen 1
      simp only [List.getElem?_toArray, List.getElem?_cons_zero, List.getElem?_cons_succ] at c0 c1
      clear hs3 hg3 he3 hr3
      have Hle : Hid (p ≤ p3) := by
        have h1 := (unhide Hs1).le; have h2 := unhide He1; have h3 := (unhide Hs2).le; have h4 := (unhide Hs3).le; have h5 := unhide He3
        show _ ≤ _
        omega
      by_cases hd3 : 0 < d3.length
      · have e1 : decide (0 < d3.length) = true := decide_eq_true hd3
        rw [e1]
        clear e1
        have Hd3 := hide (dg_day (unhide Hg3) hd3)
        clear hd3
        go_wp2_with fail
        refine bodyPost_ret (v := .tuple #[.agg #[.int .i64 (val d1), .int .i64 (val d3)], .bool true]) (by simp [results, Tryz.results94, go_sem, c0, c1]) rfl ⟨true, _, _, p3, d1, d3, rfl, ?_, fun _ => ⟨rfl, rfl⟩, unhide Hle, ?_⟩
        · rw [(unhide Hs1).eq, (unhide Hg1).eq, (unhide Hs2).eq, unhide Hl2, (unhide Hs3).eq, (unhide Hg3).eq]
          exact per_yes (unhide Hs1).bl (unhide Hd1) (unhide Hs2).bl (unhide Hy2) (unhide Hs3).bl (unhide Hd3) (unhide Hg3).stop
        · exact ((unhide H3).localSet (Nat.le_refl _) (unhide Hfr _ (Nat.le_refl _)) _ _).localSet (Nat.le_refl _) (unhide Hfr _ (Nat.le_refl _)) _ _
      · have e1 : decide (0 < d3.length) = false := decide_eq_false hd3
        rw [e1]
        clear e1
        have Hz := hide (dg_none (m := 3) (unhide Hg3) hd3 (by omega))
        clear hd3
        go_wp2_with fail
        refine bodyPost_ret (v := .tuple #[.agg #[.int .i64 0, .int .i64 0], .bool false]) (by simp [results, Tryz.results94, go_sem, c0, c1]) rfl ⟨false, 0, 0, p3, [], [], rfl, ?_, (fun h0 => by cases h0), unhide Hle, ?_⟩
        · rw [(unhide Hs1).eq, (unhide Hg1).eq, (unhide Hs2).eq, unhide Hl2, (unhide Hs3).eq, (unhide Hz).2]
          exact per_no3 (unhide Hs1).bl (unhide Hd1) (unhide Hs2).bl (unhide Hy2) (unhide Hs3).bl (unhide Hz).1 (by rw [← (unhide Hz).2]; exact (unhide Hs3).nb)
        · exact ((unhide H3).localSet (Nat.le_refl _) (unhide Hfr _ (Nat.le_refl _)) _ _).localSet (Nat.le_refl _) (unhide Hfr _ (Nat.le_refl _)) _ _
  · have e1 : decide (0 < d1.length) = false := decide_eq_false hd1
    rw [e1]
    clear e1
    have Hz := hide (dg_none (m := 3) (unhide Hg1) hd1 (by omega))
    clear hd1
    go_wp2_with fail
    refine bodyPost_ret (v := .tuple #[.agg #[.int .i64 0, .int .i64 0], .bool false]) (by simp [results, Tryz.results94, go_sem, c0, c1]) rfl ⟨false, 0, 0, p1, [], [], rfl, ?_, (fun h0 => by cases h0), ?_, ?_⟩
    · rw [(unhide Hs1).eq, (unhide Hz).2]
      exact per_no1 (unhide Hs1).bl (unhide Hz).1 (by rw [← (unhide Hz).2]; exact (unhide Hs1).nb)
    · have h1 := (unhide Hs1).le; have h2 := unhide He1; omega
    · exact ((unhide H1).localSet (Nat.le_refl _) (unhide Hfr _ (Nat.le_refl _)) _ _).localSet (Nat.le_refl _) (unhide Hfr _ (Nat.le_refl _)) _ _

end Go.Proofs.YtdchbenfccofpabGreatDoor
namespace Db

/-- Some periods have been read, each with its comma. -/
structure PerSt (l l' : List UInt8) (pd : List (List UInt8 × List UInt8)) : Prop where
  ex : ∃ x, l = x ++ l' ∧ (∀ i : Int, plc 0 0 0 i l = plc 0 0 0 (i + x.length) l') ∧ (∀ r, split (bare x ++ r) 44 = pd.map (fun p => p.1 ++ 45 :: p.2) ++ split r 44) ∧ ∀ c ∈ bare x, ¬ c.toNat = 124
  days : ∀ p ∈ pd, dayS p.1 ∧ dayS p.2
/-- All periods have been read, and the bar. -/
structure PerEnd (l : List UInt8) (ok : Bool) (l' : List UInt8) (pd : List (List UInt8 × List UInt8)) : Prop where
  ex : ∃ x, l = x ++ l' ∧ (ok = true → (∀ i : Int, plc 0 0 0 i l = plc 6 0 0 (i + x.length) l') ∧ ∃ y, bare x = y ++ [124] ∧ split y 44 = pd.map (fun p => p.1 ++ 45 :: p.2) ∧ ∀ c ∈ y, ¬ c.toNat = 124) ∧
    (ok = false → ∀ i : Int, plc 0 0 0 i l = i + x.length)
  days : ok = true → ∀ p ∈ pd, dayS p.1 ∧ dayS p.2

theorem PerSt.start (l : List UInt8) : PerSt l l [] := ⟨⟨[], rfl, fun i => by simp, fun r => by simp [bare], by simp [bare]⟩, by simp⟩
theorem seg_ne {a b : List UInt8} (ha : dayS a) (hb : dayS b) (k : UInt8) (hk : digB k.toNat = false) (h45 : ¬ k = 45) : ∀ c ∈ a ++ 45 :: b, c ≠ k := by
  intro c hc
  rw [List.mem_append, List.mem_cons] at hc
  rcases hc with hc | rfl | hc
  · exact dayS_ne ha k hk c hc
  · exact fun e => h45 e.symm
  · exact dayS_ne hb k hk c hc
theorem seg_124 {a b : List UInt8} (ha : dayS a) (hb : dayS b) : ∀ c ∈ a ++ 45 :: b, ¬ c.toNat = 124 := by
  intro c hc h
  exact seg_ne ha hb 124 rfl (by decide) c hc (UInt8.toNat_inj.1 (by rw [h]; rfl))
theorem u8_44 {c : UInt8} (h : (c.toNat : Int) = 44) : c = 44 := UInt8.toNat_inj.1 (by simp; omega)
theorem u8_124 {c : UInt8} (h : (c.toNat : Int) = 124) : c = 124 := UInt8.toNat_inj.1 (by simp; omega)

theorem PerSt.no {l l1 l' : List UInt8} {pd : List (List UInt8 × List UInt8)} {a b : List UInt8} (h : PerSt l l1 pd) (hp : Per l1 false l' a b) (pd' : List (List UInt8 × List UInt8)) : PerEnd l false l' pd' := by
  obtain ⟨x, rfl, h1, h2, h3⟩ := h.ex
  obtain ⟨y, rfl, g1, g2⟩ := hp
  refine ⟨⟨x ++ y, by simp, (fun h0 => by cases h0), fun _ i => ?_⟩, (fun h0 => by cases h0)⟩
  rw [h1, g2 rfl]; simp; omega
theorem PerSt.comma {l l1 y r : List UInt8} {pd : List (List UInt8 × List UInt8)} {a b : List UInt8} {c : UInt8} (h : PerSt l l1 pd) (hp : Per l1 true (y ++ c :: r) a b) (hy : Blanks y) (hc : (c.toNat : Int) = 44) : PerSt l r (pd ++ [(a, b)]) := by
  obtain ⟨x, rfl, h1, h2, h3⟩ := h.ex
  obtain ⟨z, rfl, g1, g2⟩ := hp
  obtain ⟨ha, hb, hbare, hst, hplc⟩ := g1 rfl
  refine ⟨⟨x ++ z ++ y ++ [c], by simp, fun i => ?_, fun q => ?_, ?_⟩, ?_⟩
  · rw [h1, hplc, plc_comma y hy c hc]
    congr 1
    simp; omega
  · simp only [bare_append, hbare, bare_blanks hy, u8_44 hc, List.append_nil]
    rw [show bare [44] = [44] from rfl]
    simp only [List.append_assoc]
    rw [h2]
    rw [show (a ++ ((45 :: b) ++ ([44] ++ q))) = (a ++ 45 :: b) ++ 44 :: q by simp, split_cons 44 _ q (seg_ne ha hb 44 rfl (by decide))]
    simp
  · intro k hk
    simp only [bare_append, hbare, bare_blanks hy, u8_44 hc, List.append_nil, List.mem_append] at hk
    rcases hk with (hk | hk) | hk
    · exact h3 k hk
    · exact seg_124 ha hb k (by simpa using hk)
    · rw [show bare [44] = [44] from rfl] at hk
      simp at hk; subst hk; decide
  · intro p hp
    simp at hp
    rcases hp with hp | rfl
    · exact h.days p hp
    · exact ⟨ha, hb⟩
theorem PerSt.bar {l l1 y r : List UInt8} {pd : List (List UInt8 × List UInt8)} {a b : List UInt8} {c : UInt8} (h : PerSt l l1 pd) (hp : Per l1 true (y ++ c :: r) a b) (hy : Blanks y) (hc : (c.toNat : Int) = 124) : PerEnd l true r (pd ++ [(a, b)]) := by
  obtain ⟨x, rfl, h1, h2, h3⟩ := h.ex
  obtain ⟨z, rfl, g1, g2⟩ := hp
  obtain ⟨ha, hb, hbare, hst, hplc⟩ := g1 rfl
  refine ⟨⟨x ++ z ++ y ++ [c], by simp, fun _ => ⟨fun i => ?_, bare x ++ (a ++ 45 :: b), ?_, ?_, ?_⟩, (fun h0 => by cases h0)⟩, ?_⟩
  · rw [h1, hplc, plc_bar y hy c hc]
    congr 1
    simp; omega
  · simp only [bare_append, hbare, bare_blanks hy, u8_124 hc, List.append_nil]
    rw [show bare [124] = [124] from rfl]
  · rw [h2, split_one 44 _ (seg_ne ha hb 44 rfl (by decide))]
    simp
  · intro k hk
    rw [List.mem_append] at hk
    rcases hk with hk | hk
    · exact h3 k hk
    · exact seg_124 ha hb k hk
  · intro _ p hp
    simp at hp
    rcases hp with hp | rfl
    · exact h.days p hp
    · exact ⟨ha, hb⟩
theorem PerSt.nobar {l l1 y l' : List UInt8} {pd : List (List UInt8 × List UInt8)} {a b : List UInt8} (h : PerSt l l1 pd) (hp : Per l1 true (y ++ l') a b) (hy : Blanks y) (h32 : ¬ hd l' = 32) (h44 : ¬ hd l' = 44) (h124 : ¬ hd l' = 124) (pd' : List (List UInt8 × List UInt8)) : PerEnd l false l' pd' := by
  obtain ⟨x, rfl, h1, h2, h3⟩ := h.ex
  obtain ⟨z, rfl, g1, g2⟩ := hp
  obtain ⟨ha, hb, hbare, hst, hplc⟩ := g1 rfl
  refine ⟨⟨x ++ z ++ y, by simp, (fun h0 => by cases h0), fun _ i => ?_⟩, (fun h0 => by cases h0)⟩
  rw [h1, hplc, plc_barNo y l' hy _ _ _ (by rcases hst with h | h; left; omega; right; exact h) h32 h44 h124]
  simp; omega

end Db
namespace Go.Proofs.YtdchbenfccofpabGreatDoor
open Go.RowKit Db

theorem RdR.alloc {b : Nat} {t : ByteArray} {v v' : Value} {w w1 : World} {a : Nat} {ps : List Pt} (h : RdR b t v w w1 a v' ps) (o : Obj) : RdR b t v w (w1.alloc o) a v' ps :=
  h.trans (h.rd.below ((Below.refl _ _).alloc (Nat.le_refl _) o))
theorem RdR.grown {b : Nat} {t : ByteArray} {v v' : Value} {w w1 w2 : World} {a : Nat} {ps : List Pt} {row : Option Nat} (h : RdR b t v w w1 a v' ps) (hg : w1.grownBy w2 row) (hr : ∀ k, row = some k → w.heap.size ≤ k ∧ ¬ XR b v' k) : RdR b t v w w2 a v' ps := by
  refine ⟨⟨h.rd.blk.grown hg ?_, h.rd.own.kept hg ?_, h.rd.le, h.rd.cnt, h.rd.sz⟩, h.frm.grown hg h.frm.size (fun k hk => .inl (hr k hk).1), h.own⟩
  · intro e; exact (hr b e.symm).2 (.inl rfl)
  · cases hv : v'.ownBlock with
    | none => exact .inl rfl
    | some k => exact .inr (fun e => (hr k e.symm).2 (.inr hv.symm))

theorem cell_two_new' (w : World) (n : Nat) (hn : n = w.heap.size) (x y : Value) (t : TypeId) : ∀ j u, [x, y][j]? = some u → (w.alloc (.cells #[x, y] t)).cell? ((⟨n, 0, none⟩ : Addr).add j) = some u := by
  subst hn; exact cell_two_new w x y t
def cellsD (pd : List (List UInt8 × List UInt8)) : List Value := pd.flatMap fun p => [.int .i64 (val p.1), .int .i64 (val p.2)]
theorem cellsD_append (p q : List (List UInt8 × List UInt8)) : cellsD (p ++ q) = cellsD p ++ cellsD q := by simp [cellsD]
theorem info_period : (Tryz.prog.info? 114).map (fun i => (i.zero, i.size, i.bytes)) = some (some (.agg #[.int .i64 0, .int .i64 0]), 2, 16) := by kernel_rfl

theorem per_lt {t : ByteArray} {k k1 : Nat} {a b : List UInt8} (h : Per ((L t).drop k) true ((L t).drop k1) a b) (hk : k ≤ t.size) (hk1 : k1 ≤ t.size) : k < k1 := by
  obtain ⟨x, hx, h1, _⟩ := h
  have hb := (h1 rfl).2.2.1
  have hl := congrArg List.length hx
  simp only [List.length_append, List.length_drop, L_length] at hl
  have hn : 0 < x.length := by
    cases x with
    | nil => exact absurd hb (by simp [bare])
    | cons => simp
  omega
/-- Where no blank stands nothing is passed over. -/
theorem skp_same {t : ByteArray} {p p' : Nat} {x : List UInt8} (h : Skp t p p' x) (hb : ¬ hd ((L t).drop p) = 32) : (L t).drop p = (L t).drop p' := by
  have he := h.eq
  match x, h.bl with
  | [], _ => simpa using he
  | c :: r, hbl =>
    rw [he] at hb
    exact absurd (by have := hbl c (by simp); simp [hd]; omega) hb

/-- Where the loop over the periods stands. -/
def PLoop (l : List UInt8) (more : Bool) (l' : List UInt8) (pd : List (List UInt8 × List UInt8)) : Prop :=
  (more = true → PerSt l l' pd) ∧ (more = false → ∃ l1 pd0 a b y, PerSt l l1 pd0 ∧ Per l1 true (y ++ l') a b ∧ Blanks y ∧ ¬ hd l' = 32 ∧ ¬ hd l' = 44 ∧ pd = pd0 ++ [(a, b)])

set_option maxRecDepth 100000 in
set_option maxHeartbeats 2000000 in
theorem periods_any (b : Nat) (t : ByteArray) (p : Nat) (v : Value) (ps : List Pt) (w : World) (h : Rd w b t p v ps) :
    Calls Tryz.prog 71 #[.pointer (some ⟨b, 0, none⟩)] w fun e w' => ∃ ok vp p' pd, e = .returned (.tuple #[vp, .bool ok]) ∧ PerEnd ((L t).drop p) ok ((L t).drop p') pd ∧
      (ok = true → w'.ownsRow w.heap.size 114 2 vp pd.length (cellsD pd)) ∧ (ok = false → vp = .slice none 0 0) ∧ p ≤ p' ∧ RdR b t v w w' p' v ps := by
  obtain ⟨ii, hi, hz0, hz1, hz2⟩ := info_parts info_period
  have hsz := h.sz
  have Hfr := hide h.fresh
  have H := hide h
  clear h
  go_enter Tryz.func71, Tryz.ntmps71
  go_wp2_with fail
  go_loopg [4, 5] (2 * (t.size - p) + 1) (fun m vp mo wr => ∃ k, ∃ more : Bool, ∃ pd, p ≤ k ∧ k ≤ t.size ∧ m = 2 * (t.size - k) + (if more then 1 else 0) ∧ mo = .bool more ∧ pd.length ≤ k ∧ Hid (PLoop ((L t).drop p) more ((L t).drop k) pd) ∧
      Hid (wr.ownsRow w.heap.size 114 2 vp pd.length (cellsD pd)) ∧ Hid (RdR b t v w wr k v ps))
  case atStart => exact ⟨p, true, [], Nat.le_refl _, (unhide H).le, rfl, rfl, Nat.zero_le _, ⟨fun _ => PerSt.start _, (fun h0 => by cases h0)⟩, World.ownsRow_nil _ _ _ _, RdR.refl (unhide H)⟩
  case round =>
    obtain ⟨k, more, pd, hpk, hk, rfl, rfl, hpl, Hl, Ho, Hr⟩ := hrel
    have hwr := (unhide Hr).frm.size
    obtain ⟨aop, capp, hvp⟩ := ownsRow_form (unhide Ho)
    subst hvp
    cases more with
    | true =>
      go_wp2_with fail
      refine (period_any b t k v ps _ (unhide Hr).rd).mono ?_
      rintro e w1 ⟨ok, x, y, k1, da, db, rfl, hper, hval, hle, hr1⟩
      have H1 := hide ((unhide Hr).trans hr1)
      have Ho1 := hide (ownsRow_frm (unhide Ho) hr1.frm (fun j hj => ⟨((unhide Ho).lt j hj).2, unhide Hfr j ((unhide Ho).lt j hj).1⟩))
      have hk1 := hr1.rd.le
      have Hper := hide hper
      clear hr1 hper
      cases ok with
      | false =>
        clear hval
        go_wp2_with fail
        go_ret2
        exact ⟨false, _, k1, [], rfl, ((unhide Hl).1 rfl).no (unhide Hper) [], (fun h0 => by cases h0), fun _ => rfl, by omega, (unhide H1).alloc _⟩
      | true =>
        obtain ⟨rfl, rfl⟩ := hval rfl
        clear hval
        have hsz1 := (unhide H1).frm.size
        go_wp2_with (first
          | (at_builtin; refine wpList_append_own_at _ rfl (.tmp 18) (.tmp 20) 66 rfl w.heap.size 114 ii (.agg #[.int .i64 0, .int .i64 0]) 2 16 Tryz.underlying66 hi hz0 hz1 hz2 rfl (by decide) (.slice aop pd.length capp) pd.length _ rfl (((unhide Ho1).alloc _).alloc _) ⟨w1.heap.size + 1, 0, none⟩ 1 1 [.int .i64 (val da), .int .i64 (val db)] rfl rfl (cell_two_new' _ _ (by simp) _ _ _) (fun x hx => by simp at hx; rcases hx with rfl | rfl <;> rfl) (by unfold maxLen; omega) (by omega) (by simp; omega) ?_; intro vp' w5 hown5 hgr5 _ hat5; obtain ⟨gf, cf, rfl, hgf, hgf'⟩ := ownsRow_some hown5 (Nat.succ_pos _)))
        have Ho5 : Hid (w5.ownsRow w.heap.size 114 2 (.slice (some ⟨gf, 0, none⟩) (pd.length + 1) cf) (pd ++ [(da, db)]).length (cellsD (pd ++ [(da, db)]))) := by
          show World.ownsRow _ _ _ _ _ _ _
          rw [cellsD_append]
          simpa [cellsD] using hown5
        have H5 := hide ((((unhide H1).alloc _).alloc _).grown hgr5 (fun j hj => ⟨((unhide Ho1).lt j hj).1, unhide Hfr j ((unhide Ho1).lt j hj).1⟩))
        have Hl1 := hide ((unhide Hl).1 rfl)
        clear hown5 hgr5 hat5
        go_wp2_with fail
        refine (accept_any b t k1 v ps 44 _ (unhide H5).rd (by omega)).mono ?_
        rintro e w6 ⟨k2, x2, hs2, ⟨hn2, rfl, hr2⟩ | ⟨y2, hy2, hl2, rfl, hr2⟩⟩
        · have H6 := hide ((unhide H5).trans hr2)
          have Ho6 := hide (ownsRow_frm (unhide Ho5) hr2.frm (fun j hj => ⟨((unhide Ho5).lt j hj).2, unhide Hfr j ((unhide Ho5).lt j hj).1⟩))
          have hk2 := hr2.rd.le
          have Hs2 := hide hs2
          have Hn2 := hide hn2
          clear hs2 hn2 hr2
          go_wp2_with fail
          have hle2 := (unhide Hs2).le
          go_roundg (2 * (t.size - k2) + 0)
          case measure => simp; omega
          case rel =>
            refine ⟨k2, false, pd ++ [(da, db)], by omega, hk2, by simp, rfl, ?_, ⟨(fun h0 => by cases h0), fun _ => ⟨_, pd, da, db, x2, unhide Hl1, by rw [← (unhide Hs2).eq]; exact unhide Hper, (unhide Hs2).bl, (unhide Hs2).nb, unhide Hn2, rfl⟩⟩, unhide Ho6, unhide H6⟩
            have := per_lt (unhide Hper) hk hk1
            simp; omega
        · have H6 := hide ((unhide H5).trans hr2)
          have Ho6 := hide (ownsRow_frm (unhide Ho5) hr2.frm (fun j hj => ⟨((unhide Ho5).lt j hj).2, unhide Hfr j ((unhide Ho5).lt j hj).1⟩))
          have hk2 := hr2.rd.le
          have Hs2 := hide hs2
          have Hy2 := hide hy2
          have Hl2 := hide hl2
          clear hs2 hy2 hl2 hr2
          go_wp2_with fail
          have hle2 := (unhide Hs2).le
          go_roundg (2 * (t.size - (k2 + 1)) + 1)
          case measure => simp; omega
          case rel =>
            refine ⟨k2 + 1, true, pd ++ [(da, db)], by omega, hk2, by simp, rfl, by simp; omega, ⟨fun _ => (unhide Hl1).comma (c := y2) (y := x2) (by rw [← unhide Hl2, ← (unhide Hs2).eq]; exact unhide Hper) (unhide Hs2).bl (unhide Hy2), (fun h0 => by cases h0)⟩, unhide Ho6, unhide H6⟩
    | false =>
      obtain ⟨l1, pd0, da, db, y, hst, hper, hy, h32, h44, rfl⟩ := (unhide Hl).2 rfl
      have Hst := hide hst
      have Hper := hide hper
      have Hy := hide hy
      have H32 := hide h32
      have H44 := hide h44
      clear hst hper hy h32 h44
      go_wp2_with fail
      refine (accept_any b t k v ps 124 _ (unhide Hr).rd (by omega)).mono ?_
      rintro e w6 ⟨k2, x2, hs2, ⟨hn2, rfl, hr2⟩ | ⟨y2, hy2, hl2, rfl, hr2⟩⟩
      · have H6 := hide ((unhide Hr).trans hr2)
        have Hs2 := hide hs2
        have Hn2 := hide hn2
        clear hs2 hn2 hr2
        go_wp2_with fail
        go_ret2
        have hz := skp_same (unhide Hs2) (unhide H32)
        refine ⟨false, _, k2, [], rfl, ?_, (fun h0 => by cases h0), fun _ => rfl, by have := (unhide Hs2).le; omega, unhide H6⟩
        rw [hz] at Hper H32 H44
        exact (unhide Hst).nobar (unhide Hper) (unhide Hy) (unhide H32) (unhide H44) (unhide Hn2) []
      · have H6 := hide ((unhide Hr).trans hr2)
        have Ho6 := hide (ownsRow_frm (unhide Ho) hr2.frm (fun j hj => ⟨((unhide Ho).lt j hj).2, unhide Hfr j ((unhide Ho).lt j hj).1⟩))
        have Hs2 := hide hs2
        have Hy2 := hide hy2
        have Hl2 := hide hl2
        clear hs2 hy2 hl2 hr2
        go_wp2_with fail
        go_ret2
        have hz := skp_same (unhide Hs2) (unhide H32)
        refine ⟨true, .slice aop (pd0.length + 1) capp, k2 + 1, pd0 ++ [(da, db)], rfl, ?_, fun _ => (by have := unhide Ho6; simpa using this), (fun h0 => by cases h0), by have := (unhide Hs2).le; omega, unhide H6⟩
        rw [hz, unhide Hl2] at Hper
        exact (unhide Hst).bar (unhide Hper) (unhide Hy) (unhide Hy2)

end Go.Proofs.YtdchbenfccofpabGreatDoor
