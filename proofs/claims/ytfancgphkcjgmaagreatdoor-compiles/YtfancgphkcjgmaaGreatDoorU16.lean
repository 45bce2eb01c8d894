/- Codes: words, as the document sees them: acts, chooses; the parts of a row. Codes: the document's unfolded. Reports: the program's sheet: how it lies; its small functions. Reports: the program's sheet: are all accounts there; a cell that was worked out. Reports: the program's sheet: a movement; the cell of an operand. -/
import Derived.Test.YtfancgphkcjgmaaGreatDoorU15
import Derived.Test.YtfancgphkcjgmaaGreatDoorU09
import Derived.Test.YtfancgphkcjgmaaGreatDoorU01
import Derived.Test.YtfancgphkcjgmaaGreatDoorU14
import Derived.Test.YtfancgphkcjgmaaGreatDoorU03
import Derived.Test.YtfancgphkcjgmaaGreatDoorU07
import Derived.Test.YtfancgphkcjgmaaGreatDoorU08
import Derived.Deep.RegionHeld3
import Derived.Deep.DeepCutAuto
namespace Db
open Go Go.Proofs.YtfancgphkcjgmaaGreatDoor
def actB (l : List UInt8) : Bool := match l with | [c] => opB c.toNat || c.toNat == 126 | _ => false
def choB (l : List UInt8) (row : Int) : Bool :=
  match l with
  | c :: t => if decide (1 ≤ t.length) && decide (t.length ≤ 2) then (if !(whl t).2 || decide ((whl t).1 < 0) then false else selB c.toNat || (oldB c.toNat && decide ((whl t).1 < row))) else false
  | [] => false
/-- A word of the code of row number n. -/
def WOk (row : Int) (p : Pt) : Prop := PtS p ∧ (selB p.1 = true → 0 ≤ p.2 ∧ p.2 < 100) ∧ (oldB p.1 = true → 0 ≤ p.2 ∧ p.2 < 10 ∧ p.2 < row)
theorem u8_op {s : Int} (h : opB s = true ∨ s = 126) : ((u8 s).toNat : Int) = s ∧ digB (u8 s).toNat = false := by
  rcases h with h | rfl
  · simp [opB] at h
    rcases h with ((rfl | rfl) | rfl) | rfl <;> exact ⟨rfl, rfl⟩
  · exact ⟨rfl, rfl⟩
theorem u8_sel {s : Int} (h : selB s = true ∨ oldB s = true) : ((u8 s).toNat : Int) = s ∧ digB (u8 s).toNat = false ∧ ¬ (u8 s).toNat = 45 ∧ (s == 48) = false ∧ opdB s = true := by
  rcases h with h | h
  · simp [selB] at h
    rcases h with (rfl | rfl) | rfl <;> exact ⟨rfl, rfl, by decide, rfl, rfl⟩
  · simp [oldB] at h
    rcases h with rfl | rfl <;> exact ⟨rfl, rfl, by decide, rfl, rfl⟩
theorem sg_cases {s : Int} (h : sgB s = true) : s = 48 ∨ (selB s = true ∨ oldB s = true) ∨ (opdB s = false ∧ (opB s = true ∨ s = 126)) := by
  simp [sgB, opdB, opB, selB, oldB] at h
  rcases h with (((rfl | (rfl | rfl) | rfl) | rfl | rfl) | ((rfl | rfl) | rfl) | rfl) | rfl <;> simp [opdB, opB, selB, oldB]
theorem wordC_num (n : Int) : wordC (48, n) = Lib.itoa n := rfl
theorem wordC_opd {p : Pt} (h : selB p.1 = true ∨ oldB p.1 = true) : wordC p = u8 p.1 :: Lib.itoa p.2 := by
  have := u8_sel h
  unfold wordC
  rw [this.2.2.2.1, this.2.2.2.2]; rfl
theorem wordC_op {p : Pt} (h : opdB p.1 = false) : wordC p = [u8 p.1] := by
  unfold wordC
  have : (p.1 == 48) = false := by
    cases h8 : (p.1 == 48) with
    | false => rfl
    | true => rw [beq_iff_eq.1 h8] at h; cases h
  rw [this, h]; rfl
/-- A number's word is just that. -/
theorem whl_word {p : Pt} (h : PtS p) : whl (wordC p) = if p.1 == 48 then (p.2, true) else (0, false) := by
  obtain ⟨s, n⟩ := p
  rcases sg_cases h.1 with hs | hs | ⟨h1, h2⟩
  · simp only at hs
    subst hs
    rw [wordC_num, whl_itoa h.2]; rfl
  · have := u8_sel hs
    rw [wordC_opd hs, whl_not this.2.1 (.inl this.2.2.1), this.2.2.2.1]; rfl
  · have h3 := u8_op h2
    have h48 : (s == 48) = false := by
      cases h8 : (s == 48) with
      | false => rfl
      | true => rw [beq_iff_eq.1 h8] at h1; cases h1
    rw [wordC_op h1, whl_not h3.2 (.inr rfl), h48]; rfl
theorem itoa_head (n : Int) : ∃ c t, Lib.itoa n = c :: t ∧ ((digB c.toNat = true) ∨ (c.toNat = 45 ∧ t ≠ [])) := by
  by_cases hn : n < 0
  · obtain ⟨u, rfl⟩ : ∃ u : Nat, n = -(u : Int) := ⟨n.natAbs, by omega⟩
    rw [Lib.itoa_neg u (by omega)]
    exact ⟨45, _, rfl, .inr ⟨rfl, (dec_facts u).2.2.1⟩⟩
  · obtain ⟨u, rfl⟩ : ∃ u : Nat, n = (u : Int) := ⟨n.toNat, by omega⟩
    rw [Lib.itoa_nonneg]
    obtain ⟨h1, _, h3, _⟩ := dec_facts u
    cases hd : Lib.decDigits u with
    | nil => exact absurd hd h3
    | cons c t => exact ⟨c, t, rfl, .inl (h1 c (by rw [hd]; simp))⟩
theorem act_word {p : Pt} (h : PtS p) : actB (wordC p) = !opdB p.1 := by
  obtain ⟨s, n⟩ := p
  rcases sg_cases h.1 with hs | hs | ⟨h1, h2⟩
  · simp only at hs
    subst hs
    rw [wordC_num]
    obtain ⟨c, t, he, hc⟩ := itoa_head n
    rw [he]
    cases t with
    | cons d r => rfl
    | nil =>
      rcases hc with hc | hc
      · unfold digB at hc
        simp at hc
        unfold actB opB
        simp
        have e : opdB 48 = true := rfl
        rw [e]
        simp
        omega
      · exact absurd rfl hc.2
  · have h5 := u8_sel hs
    rw [wordC_opd hs]
    obtain ⟨c, t, he, _⟩ := itoa_head n
    simp only at h5 ⊢
    rw [he, h5.2.2.2.2]; rfl
  · have h3 := u8_op h2
    rw [wordC_op h1]
    simp only at h1 h3 ⊢
    unfold actB
    simp only
    rw [h1, h3.1]
    rcases h2 with h2 | h2
    · simp only at h2; rw [h2]; rfl
    · simp only at h2; subst h2
      simp
      decide
theorem til_word {p : Pt} (h : PtS p) : (wordC p = [126]) ↔ p.1 = 126 := by
  obtain ⟨s, n⟩ := p
  rcases sg_cases h.1 with hs | hs | ⟨h1, h2⟩
  · simp only at hs
    subst hs
    rw [wordC_num]
    obtain ⟨c, t, he, hc⟩ := itoa_head n
    rw [he]
    constructor
    · intro e
      simp at e
      rcases hc with hc | hc
      · rw [e.1] at hc; exact absurd hc (by decide)
      · rw [e.1] at hc; exact absurd hc.1 (by decide)
    · intro e; simp at e
  · rw [wordC_opd hs]
    obtain ⟨c, t, he, _⟩ := itoa_head n
    rw [he]
    constructor
    · intro e; simp at e
    · intro e
      simp only at e hs
      subst e
      rcases hs with hs | hs <;> cases hs
  · have h3 := u8_op h2
    rw [wordC_op h1]
    simp only at h3 ⊢
    constructor
    · intro e
      simp at e
      rw [e] at h3
      exact h3.1.symm
    · rintro rfl; rfl
theorem itoa_two {n : Int} (h0 : 0 ≤ n) (h1 : n < 100) : 1 ≤ (Lib.itoa n).length ∧ (Lib.itoa n).length ≤ 2 ∧ (n < 10 → (Lib.itoa n).length = 1) ∧ (∀ c ∈ Lib.itoa n, digB c.toNat = true) ∧ val (Lib.itoa n) = n := by
  obtain ⟨u, rfl⟩ : ∃ u : Nat, n = (u : Int) := ⟨n.toNat, by omega⟩
  rw [Lib.itoa_nonneg]
  obtain ⟨f1, f2, f3, f4⟩ := dec_facts u
  by_cases h : u < 10
  · refine ⟨?_, ?_, fun _ => ?_, f1, f2⟩ <;> rw [Lib.decDigits_one h] <;> simp
  · refine ⟨?_, ?_, fun h => absurd h (by omega), f1, f2⟩ <;> rw [Lib.decDigits_two h (by omega)] <;> simp
theorem cho_word {row : Int} {p : Pt} (h : WOk row p) (ho : selB p.1 = true ∨ oldB p.1 = true) : choB (wordC p) row = true := by
  obtain ⟨s, n⟩ := p
  obtain ⟨⟨_, hin⟩, hs, hl⟩ := h
  have h5 := u8_sel ho
  rw [wordC_opd ho]
  simp only at hin hs hl h5 ho ⊢
  have hn : 0 ≤ n ∧ n < 100 := by
    rcases ho with ho | ho
    · exact hs ho
    · have := hl ho; omega
  have hi := itoa_two hn.1 hn.2
  unfold choB
  simp only
  rw [whl_itoa hin, h5.1]
  have h0 : ¬ n < 0 := by omega
  simp only [hi.1, hi.2.1, h0]
  rcases ho with ho | ho
  · simp [ho]
  · have := (hl ho).2.2
    simp [ho, this]
theorem opnd_wordC {row : Int} {p : Pt} (h : WOk row p) (ho : selB p.1 = true ∨ oldB p.1 = true) : Opnd (wordC p) [p] := by
  obtain ⟨s, n⟩ := p
  obtain ⟨⟨_, hin⟩, hs, hl⟩ := h
  have h5 := u8_sel ho
  rw [wordC_opd ho]
  simp only at hin hs hl h5 ho ⊢
  have hn : 0 ≤ n ∧ n < 100 := by
    rcases ho with ho | ho
    · exact hs ho
    · have := hl ho; omega
  obtain ⟨i1, i2, i3, i4, i5⟩ := itoa_two hn.1 hn.2
  refine .inr ⟨u8 s, Lib.itoa n, rfl, i1, i4, ?_, by rw [i5, h5.1]⟩
  rcases ho with ho | ho
  · exact .inl ⟨by rw [h5.1]; exact ho, i2⟩
  · exact .inr ⟨by rw [h5.1]; exact ho, i3 (hl ho).2.1⟩
end Db
namespace Go.Proofs.YtfancgphkcjgmaaGreatDoor
open Go.RowKit Db

set_option maxRecDepth 100000 in
set_option maxHeartbeats 1000000 in
theorem acts_any (t : ByteArray) (w : World) :
    Calls Tryz.prog 91 #[.string t] w fun e w' => e = .returned (.bool (actB (L t))) ∧ w' = w := by
  by_cases h1 : t.size = 1
  · have hz : 0 < t.size := by omega
    have hL : L t = [t[0]] := by
      have := L_drop t 0 hz
      rw [List.drop_zero] at this
      rw [this, L_drop_end t _ (by omega)]
    have hr : actB (L t) = (opB (t[0].toNat : Int) || t[0].toNat == 126) := by rw [hL]; rfl
    rw [hr]
    obtain ⟨o, ho⟩ : ∃ o, opB (t[0].toNat : Int) = o := ⟨_, rfl⟩
    have Hop := hide (fun wx : World => operation_any (t[0].toNat : Int) wx)
    rw [ho] at Hop ⊢
    obtain ⟨q, hq⟩ : ∃ q, (t[0].toNat == 126) = q := ⟨_, rfl⟩
    rw [hq]
    have Hq := hide hq
    clear hL hr ho hq
    go_enter Tryz.func91, Tryz.ntmps91
    go_wp2_with fail
    refine (unhide Hop _).mono ?_
    rintro e w1 ⟨rfl, rfl⟩
    cases o with
    | true =>
      go_wp2_with fail
      go_ret
      exact ⟨rfl, rfl⟩
    | false =>
      cases q with
      | true =>
        have h126i : (t[0].toNat : Int) = 126 := by have : t[0].toNat = 126 := by simpa using unhide Hq
                                                    omega
        go_wp2_with fail
        go_ret
        exact ⟨rfl, rfl⟩
      | false =>
        have h126 : ¬ t[0].toNat = 126 := by simpa using unhide Hq
        have h126b : ((t[0].toNat : Int) == 126) = false := by simp; omega
        go_wp2_with fail
        go_ret
        exact ⟨rfl, rfl⟩
  · have hr : actB (L t) = false := by
      have hl := L_length t
      match hL : L t with
      | [] => rfl
      | [c] => rw [hL] at hl; simp at hl; omega
      | c :: d :: r => rfl
    rw [hr]
    have h1i : ¬ (t.size : Int) = 1 := by omega
    have h1b : ((t.size : Int) == 1) = false := by simpa using h1i
    clear hr
    go_enter Tryz.func91, Tryz.ntmps91
    go_wp2_with fail
    go_ret
    exact ⟨rfl, rfl⟩

set_option maxRecDepth 100000 in
set_option maxHeartbeats 1000000 in
theorem chooses_any (t : ByteArray) (row : Int) (w : World) (hs : t.size ≤ 10000) :
    Calls Tryz.prog 90 #[.string t, .int .i64 row] w fun e w' => e = .returned (.bool (choB (L t) row)) ∧ w' = w := by
  by_cases h2 : t.size < 2
  · have hr : choB (L t) row = false := by
      have hl := L_length t
      match hL : L t with
      | [] => rfl
      | [c] => rfl
      | c :: d :: r => rw [hL] at hl; simp at hl; omega
    rw [hr]
    clear hr
    go_enter Tryz.func90, Tryz.ntmps90
    go_wp2_with fail
    go_ret
    exact ⟨rfl, rfl⟩
  by_cases h3 : 3 < t.size
  · have hr : choB (L t) row = false := by
      have hl := L_length t
      match hL : L t with
      | [] => rfl
      | c :: r =>
        rw [hL] at hl
        simp at hl
        unfold choB
        have : ¬ r.length ≤ 2 := by omega
        simp [this]
    rw [hr]
    clear hr
    go_enter Tryz.func90, Tryz.ntmps90
    go_wp2_with fail
    go_ret
    exact ⟨rfl, rfl⟩
  · have hz : 0 < t.size := by omega
    have hL : L t = t[0] :: (L t).drop 1 := by
      have := L_drop t 0 hz
      rwa [List.drop_zero] at this
    have hex : L (t.extract 1 t.size) = (L t).drop 1 := by
      rw [L_extract]
      exact List.take_of_length_le (by rw [List.length_drop, L_length]; omega)
    have hdl : ((L t).drop 1).length = t.size - 1 := by rw [List.length_drop, L_length]
    obtain ⟨x, hx⟩ : ∃ x, whl ((L t).drop 1) = x := ⟨_, rfl⟩
    have hr : choB (L t) row = if !x.2 || decide (x.1 < 0) then false else selB (t[0].toNat : Int) || (oldB (t[0].toNat : Int) && decide (x.1 < row)) := by
      rw [hL]
      unfold choB
      simp only
      rw [hx, if_pos]
      rw [hdl]
      simp; omega
    rw [hr]
    have Hwh := hide (fun wx : World => whole_any (t.extract 1 t.size) wx (by simp; omega))
    rw [hex, hx] at Hwh
    obtain ⟨x1, x2⟩ := x
    have Hse := hide (fun wx : World => selector_any (t[0].toNat : Int) wx)
    have Hol := hide (fun wx : World => older_any (t[0].toNat : Int) wx)
    obtain ⟨se, hse⟩ : ∃ se, selB (t[0].toNat : Int) = se := ⟨_, rfl⟩
    obtain ⟨ol, hol⟩ : ∃ ol, oldB (t[0].toNat : Int) = ol := ⟨_, rfl⟩
    rw [hse] at Hse ⊢
    rw [hol] at Hol ⊢
    simp only at Hwh ⊢
    clear hL hex hdl hx hr hse hol
    cases x2 with
    | false =>
      simp only [Bool.not_false, Bool.true_or, if_true]
      go_enter Tryz.func90, Tryz.ntmps90
      go_wp2_with fail
      refine (unhide Hwh _).mono ?_
      rintro e w1 ⟨rfl, rfl⟩
      go_wp2_with fail
      go_ret
      exact ⟨rfl, rfl⟩
    | true =>
      by_cases h0 : x1 < 0
      · rw [if_pos (by simp [h0])]
        go_enter Tryz.func90, Tryz.ntmps90
        go_wp2_with fail
        refine (unhide Hwh _).mono ?_
        rintro e w1 ⟨rfl, rfl⟩
        go_wp2_with fail
        go_ret
        exact ⟨rfl, rfl⟩
      · rw [if_neg (by simp; omega)]
        have hn0 : 0 ≤ x1 := by omega
        cases se <;> cases ol <;> by_cases hrow : x1 < row
        all_goals
          go_enter Tryz.func90, Tryz.ntmps90
          go_wp2_with fail
          refine (unhide Hwh _).mono ?_
          rintro e w1 ⟨rfl, rfl⟩
          go_wp2_with fail
          refine (unhide Hse _).mono ?_
          rintro e w1 ⟨rfl, rfl⟩
          go_wp2_with fail
          refine (unhide Hol _).mono ?_
          rintro e w1 ⟨rfl, rfl⟩
          go_wp2_with fail
          go_ret
          exact ⟨by simp [hrow], rfl⟩

/-- The contract of parts, at depth n. -/
def PartsC (n : Nat) : Prop := ∀ (t : ByteArray) (ps : List Pt) (w : World), t.size ≤ 200 → Wf n (L t) ps → ps.length ≤ 200 →
    Calls Tryz.prog 92 #[.string t] w fun e w' => e = .returned (.int .i64 (ps.length : Int)) ∧ ∃ m, w' = w.drewN m
set_option maxRecDepth 100000 in
set_option maxHeartbeats 1000000 in
theorem parts_any (n : Nat) : PartsC n := by
  induction n with
  | zero => intro t ps w hs hw; exact absurd hw (by simp [Wf])
  | succ n ih =>
    intro t ps w hs hw hl
    have Hih := hide ih
    clear ih
    rcases hw with ⟨hc, hop⟩ | ⟨hc, hw⟩ | ⟨hc, p, hw, rfl⟩ | ⟨hc, p, q, hp, hq, rfl⟩
    · obtain ⟨p, rfl, _⟩ := opnd_opd hop
      have Hcut := hide hc
      clear hc hop
      go_enter Tryz.func92, Tryz.ntmps92
      go_wp2_with fail
      refine (cut_any t _ hs).mono ?_
      rintro e w1 ⟨o, l, r, rfl, ⟨hco, hcl, hcr⟩, m, rfl⟩
      rw [unhide Hcut] at hco
      subst hco
      clear hcl hcr
      go_wp2_with fail
      go_ret
      exact ⟨rfl, _, rfl⟩
    · have Hw := hide hw
      have Ho := hide hc
      clear hw hc
      go_enter Tryz.func92, Tryz.ntmps92
      go_wp2_with fail
      refine (cut_any t _ hs).mono ?_
      rintro e w1 ⟨o, l, r, rfl, ⟨hco, hcl, hcr⟩, m, rfl⟩
      obtain rfl : (40 : Int) = o := (unhide Ho).symm.trans hco
      have Hr : Hid (Wf n (L r) ps) := by show Wf _ _ _; rw [hcr]; exact unhide Hw
      have hrs : r.size ≤ 200 := Nat.le_trans (size_of_L hcr (cut_le (L t)).2) hs
      clear hco hcl hcr Hw Ho
      go_wp2_with fail
      refine (unhide Hih r ps _ hrs (unhide Hr) hl).mono ?_
      rintro e w2 ⟨rfl, m2, rfl⟩
      go_wp2_with fail
      go_ret
      exact ⟨rfl, m + m2, by simp [World.drewN]⟩
    · have Hw := hide hw
      have Ho := hide hc
      have hpl : p.length ≤ 199 := by simp at hl; omega
      have hlen : (p ++ [((126 : Int), (0 : Int))]).length = p.length + 1 := by simp
      rw [hlen]
      clear hw hc hlen
      go_enter Tryz.func92, Tryz.ntmps92
      go_wp2_with fail
      refine (cut_any t _ hs).mono ?_
      rintro e w1 ⟨o, l, r, rfl, ⟨hco, hcl, hcr⟩, m, rfl⟩
      obtain rfl : (126 : Int) = o := (unhide Ho).symm.trans hco
      have Hr : Hid (Wf n (L r) p) := by show Wf _ _ _; rw [hcr]; exact unhide Hw
      have hrs : r.size ≤ 200 := Nat.le_trans (size_of_L hcr (cut_le (L t)).2) hs
      clear hco hcl hcr Hw Ho
      go_wp2_with fail
      refine (unhide Hih r p _ hrs (unhide Hr) (by omega)).mono ?_
      rintro e w2 ⟨rfl, m2, rfl⟩
      go_wp2_with fail
      go_ret
      exact ⟨retI' (by omega), m + m2, by simp [World.drewN]⟩
    · have Hp := hide hp
      have Hq := hide hq
      have Ho := hide hc
      have hpl : p.length + q.length ≤ 199 := by simp at hl; omega
      obtain ⟨oo, hoo⟩ : ∃ oo, (cut (L t)).1 = oo := ⟨_, rfl⟩
      have hlen : (p ++ q ++ [((cut (L t)).1, (0 : Int))]).length = p.length + q.length + 1 := by simp; omega
      rw [hlen]
      have Hoo := hide hoo
      clear hp hq hc hlen hoo hl
      go_enter Tryz.func92, Tryz.ntmps92
      go_wp2_with fail
      refine (cut_any t _ hs).mono ?_
      rintro e w1 ⟨o, l, r, rfl, ⟨hco, hcl, hcr⟩, m, rfl⟩
      have ho := unhide Ho
      rw [hco] at ho
      have Hl : Hid (Wf n (L l) p) := by show Wf _ _ _; rw [hcl]; exact unhide Hp
      have Hr : Hid (Wf n (L r) q) := by show Wf _ _ _; rw [hcr]; exact unhide Hq
      have hls : l.size ≤ 200 := Nat.le_trans (size_of_L hcl (cut_le (L t)).1) hs
      have hrs : r.size ≤ 200 := Nat.le_trans (size_of_L hcr (cut_le (L t)).2) hs
      have n40 := op_ne ho 40 rfl
      have n126 := op_ne ho 126 rfl
      have n0 := op_ne ho 0 rfl
      clear hco hcl hcr Hp Hq Ho ho Hoo
      go_wp2_with fail
      refine (unhide Hih l p _ hls (unhide Hl) (by omega)).mono ?_
      rintro e w2 ⟨rfl, m2, rfl⟩
      go_wp2_with fail
      refine (unhide Hih r q _ hrs (unhide Hr) (by omega)).mono ?_
      rintro e w3 ⟨rfl, m3, rfl⟩
      go_wp2_with fail
      go_ret
      exact ⟨retI' (by omega), m + m2 + m3, by simp [World.drewN, Nat.add_assoc]⟩

end Go.Proofs.YtfancgphkcjgmaaGreatDoor
namespace Db
theorem nf_app : ∀ (a b : List Pt), Nf (a ++ b) → Nf b
  | [], _, h => h
  | _ :: a, b, h => nf_app a b h.2
theorem split_at' {α : Type} {l : List α} {i : Nat} {x : α} (h : l[i]? = some x) : l = l.take i ++ x :: l.drop (i + 1) := by
  obtain ⟨hi, rfl⟩ := List.getElem?_eq_some_iff.1 h
  rw [List.getElem_cons_drop, List.take_append_drop]
theorem nf_at {ps : List Pt} {i : Nat} {p : Pt} (hN : Nf ps.reverse) (h : ps[i]? = some p) : fld p (ps.take i).reverse = none := by
  have h1 := congrArg List.reverse (split_at' h)
  rw [List.reverse_append, List.reverse_cons, List.append_assoc] at h1
  rw [h1] at hN
  exact (nf_app _ _ hN).1
theorem take_rev {ps : List Pt} {i : Nat} {p : Pt} (h : ps[i]? = some p) : (ps.take (i + 1)).reverse = p :: (ps.take i).reverse := by
  rw [List.take_add_one, h]; simp
/-- What is left could not be worked out. -/
theorem nf_neg {ps : List Pt} {i : Nat} {y n : Int} (hN : Nf ps.reverse) (h : ps[i + 1]? = some (126, n)) (h1 : ps[i]? = some (48, y)) : ¬ (don 45 (0, 0) (y, 0)).2 = 0 := by
  have := nf_at hN h
  rw [take_rev h1] at this
  intro h0
  unfold fld at this
  simp [h0, show opdB 126 = false from rfl] at this
theorem nf_bin {ps : List Pt} {i : Nat} {o x y n : Int} (hN : Nf ps.reverse) (ho : opdB o = false) (h126 : (o == 126) = false) (h : ps[i + 2]? = some (o, n)) (h1 : ps[i + 1]? = some (48, y)) (h2 : ps[i]? = some (48, x)) : ¬ (don o (x, 0) (y, 0)).2 = 0 := by
  have := nf_at hN h
  rw [take_rev h1, take_rev h2] at this
  intro h0
  unfold fld at this
  simp [h0, ho, h126] at this
end Db
namespace Go.Proofs.YtfancgphkcjgmaaGreatDoor
open Go.RowKit Db

theorem lit43 : Db.u8 43 = 43 := rfl
theorem lit45 : Db.u8 45 = 45 := rfl
theorem lit42 : Db.u8 42 = 42 := rfl
theorem lit47 : Db.u8 47 = 47 := rfl
theorem lit126 : Db.u8 126 = 126 := rfl
/-- Words as they lie. -/
structure WdAt (w : World) (B : Nat) (v : Value) (us : List ByteArray) (ps : List Pt) : Prop where
  own : w.ownsRow B 9 1 v us.length (us.map Value.string)
  eq : us.map L = ps.map wordC
theorem WdAt.kept {w w' : World} {B : Nat} {v : Value} {us : List ByteArray} {ps : List Pt} (h : WdAt w B v us ps) (hb : Below w.heap.size w w') : WdAt w' B v us ps := ⟨ownsRow_below h.own hb, h.eq⟩
theorem WdAt.len {w : World} {B : Nat} {v : Value} {us : List ByteArray} {ps : List Pt} (h : WdAt w B v us ps) : us.length = ps.length := by
  have := congrArg List.length h.eq
  simpa using this
/-- The word at i. -/
theorem WdAt.at {w : World} {B g cap : Nat} {us : List ByteArray} {ps : List Pt} (h : WdAt w B (.slice (some ⟨g, 0, none⟩) us.length cap) us ps) {i : Nat} (hi : i < us.length) :
    ∃ u p, us[i]? = some u ∧ ps[i]? = some p ∧ L u = wordC p ∧ w.cell? ⟨g, i, none⟩ = some (.string u) := by
  obtain ⟨u, hu⟩ : ∃ u, us[i]? = some u := ⟨us[i], List.getElem?_eq_getElem hi⟩
  obtain ⟨p, hp⟩ : ∃ p, ps[i]? = some p := ⟨ps[i]'(by rw [← h.len]; exact hi), List.getElem?_eq_getElem _⟩
  have h1 := congrArg (fun l => l[i]?) h.eq
  simp only [List.getElem?_map, hu, hp, Option.map_some, Option.some.injEq] at h1
  exact ⟨u, p, hu, hp, h1, ownsRow_cell h.own (j := i) (by rw [List.getElem?_map, hu]; rfl)⟩
theorem one_byte {u : ByteArray} {c : UInt8} (h : L u = [c]) : u = ⟨#[c]⟩ := L_inj h
theorem word_size {p : Pt} {u : ByteArray} (h : PtS p) (hu : L u = wordC p) : u.size ≤ 22 := by
  rw [size_L, hu]; exact wordC_len h.2
theorem op_five {p : Pt} (h : PtS p) (ho : opdB p.1 = false) : p.1 = 126 ∨ p.1 = 43 ∨ p.1 = 45 ∨ p.1 = 42 ∨ p.1 = 47 := by
  rcases sg_cases h.1 with h1 | h1 | ⟨_, h1⟩
  · rw [h1] at ho; cases ho
  · have := (u8_sel h1).2.2.2.2; rw [this] at ho; cases ho
  · rcases h1 with h1 | h1
    · simp [opB] at h1; omega
    · exact .inl h1

set_option maxRecDepth 100000 in
set_option maxHeartbeats 4000000 in
theorem unfolded_any (B : Nat) (v : Value) (us : List ByteArray) (ps : List Pt) (w : World) (h : WdAt w B v us ps) (hP : ∀ p ∈ ps, PtS p) (hN : Nf ps.reverse) (hl : us.length ≤ 400) (h1 : 1 ≤ us.length) :
    Calls Tryz.prog 93 #[v] w fun e w' => e = .returned (.bool false) ∧ Below w.heap.size w w' := by
  obtain ⟨g, cap, rfl, hg, hg'⟩ := ownsRow_some h.own h1
  have H := hide h
  have HP := hide hP
  have HN := hide hN
  clear h hP hN
  go_enter Tryz.func93, Tryz.ntmps93
  go_wp2_with fail
  go_loopg [3] us.length (fun m i wr => ∃ j : Nat, j + 1 ≤ us.length ∧ m = us.length - j ∧ i = .int .i64 ((j + 1 : Nat) : Int) ∧ Hid (Below w.heap.size w wr))
  case atStart => exact ⟨0, by omega, rfl, rfl, Below.refl _ _⟩
  case round =>
    obtain ⟨j, hj, rfl, rfl, Hb⟩ := hrel
    have hsz := (unhide Hb).size
    have hji : ((j + 1 : Nat) : Int) = (j : Int) + 1 := by omega
    by_cases hlt : j + 1 < us.length
    · have hk := (unhide H).kept (unhide Hb)
      obtain ⟨u1, p1, hu1, hp1, hL1, d1⟩ := hk.at hlt
      obtain ⟨u0, p0, hu0, hp0, hL0, d0⟩ := hk.at (i := j) (by omega)
      have hP1 := unhide HP p1 (List.mem_of_getElem? hp1)
      have hP0 := unhide HP p0 (List.mem_of_getElem? hp0)
      have Ha1 := hide (fun wx : World => acts_any u1 wx)
      have Hw0 := hide (fun wx : World => whole_any u0 wx (by have := word_size hP0 hL0; omega))
      rw [hL1, act_word hP1] at Ha1
      rw [hL0, whl_word hP0] at Hw0
      obtain ⟨s1, n1⟩ := p1
      obtain ⟨s0, n0⟩ := p0
      simp only at Ha1 Hw0
      have hlti : (j : Int) + 1 < (us.length : Int) := by omega
      have hj400 : j ≤ 400 := by omega
      cases ho : opdB s1 with
      | true =>
        rw [ho] at Ha1
        cases h48 : (s0 == 48) with
        | true =>
          rw [h48] at Hw0
          simp only [if_true] at Hw0
          clear hk hP1 hP0 hu1 hu0 hL1 hL0
          go_wp2_with fail
          refine (unhide Ha1 _).mono ?_
          rintro e w1 ⟨rfl, rfl⟩
          go_wp2_with fail
          refine (unhide Hw0 _).mono ?_
          rintro e w1 ⟨rfl, rfl⟩
          go_wp2_with fail
          go_roundg (us.length - (j + 1))
          case measure => omega
          case rel => exact ⟨j + 1, by omega, rfl, by go_num, unhide Hb⟩
        | false =>
          rw [h48] at Hw0
          simp only [Bool.false_eq_true, if_false] at Hw0
          clear hk hP1 hP0 hu1 hu0 hL1 hL0
          go_wp2_with fail
          refine (unhide Ha1 _).mono ?_
          rintro e w1 ⟨rfl, rfl⟩
          go_wp2_with fail
          refine (unhide Hw0 _).mono ?_
          rintro e w1 ⟨rfl, rfl⟩
          go_wp2_with fail
          go_roundg (us.length - (j + 1))
          case measure => omega
          case rel => exact ⟨j + 1, by omega, rfl, by go_num, unhide Hb⟩
      | false =>
        rw [ho] at Ha1
        cases h48 : (s0 == 48) with
        | false =>
          rw [h48] at Hw0
          simp only [Bool.false_eq_true, if_false] at Hw0
          clear hk hP1 hP0 hu1 hu0 hL1 hL0
          go_wp2_with fail
          refine (unhide Ha1 _).mono ?_
          rintro e w1 ⟨rfl, rfl⟩
          go_wp2_with fail
          refine (unhide Hw0 _).mono ?_
          rintro e w1 ⟨rfl, rfl⟩
          go_wp2_with fail
          go_roundg (us.length - (j + 1))
          case measure => omega
          case rel => exact ⟨j + 1, by omega, rfl, by go_num, unhide Hb⟩
        | true =>
          rw [h48] at Hw0
          simp only [if_true] at Hw0
          obtain rfl : s0 = 48 := by simpa using h48
          have hin0 := hP0.2
          simp only at hin0
          have hcase := op_five hP1 ho
          simp only at hcase
          have hw1 := wordC_op (p := (s1, n1)) ho
          rw [hw1] at hL1
          simp only at hL1
          rcases hcase with rfl | hc4
          · first | rw [lit43] at hL1 | rw [lit45] at hL1 | rw [lit42] at hL1 | rw [lit47] at hL1 | rw [lit126] at hL1
            obtain rfl := one_byte hL1
            have hd := nf_neg (unhide HN) hp1 hp0
            have Hdn := hide (fun wx : World => done_any 45 (0, 0) (n0, 0) wx rfl hin0)
            obtain ⟨d, hdd⟩ : ∃ d, don 45 (0, 0) (n0, 0) = d := ⟨_, rfl⟩
            rw [hdd] at hd Hdn
            obtain ⟨da, db⟩ := d
            simp only at hd
            have hdb : (db == 0) = false := by simpa using hd
            unfold clV at Hdn
            simp only at Hdn
            clear hk hP1 hP0 hu1 hu0 hL1 hL0 hdd hw1 ho h48
            go_wp2_with fail
            refine (unhide Ha1 _).mono ?_
            rintro e w1 ⟨rfl, rfl⟩
            go_wp2_with fail
            refine (unhide Hw0 _).mono ?_
            rintro e w1 ⟨rfl, rfl⟩
            go_wp2_with fail
            refine (unhide Hdn _).mono ?_
            rintro e w2 ⟨rfl, hb2⟩
            have Hb2 := hide ((unhide Hb).then' hsz hb2)
            have hsz2 := (unhide Hb2).size
            clear hb2
            go_wp2_with fail
            go_roundg (us.length - (j + 1))
            case measure => omega
            case rel => exact ⟨j + 1, by omega, rfl, by go_num, (unhide Hb2).alloc hsz2 _⟩
          · by_cases hj0 : j = 0
            · subst hj0
              clear hk hP1 hP0 hu1 hu0 hL0 hw1 ho h48 hin0
              rcases hc4 with rfl | rfl | rfl | rfl
              all_goals
                first | rw [lit43] at hL1 | rw [lit45] at hL1 | rw [lit42] at hL1 | rw [lit47] at hL1 | rw [lit126] at hL1
                obtain rfl := one_byte hL1
                clear hL1
                go_wp2_with fail
                refine (unhide Ha1 _).mono ?_
                rintro e w1 ⟨rfl, rfl⟩
                go_wp2_with fail
                refine (unhide Hw0 _).mono ?_
                rintro e w1 ⟨rfl, rfl⟩
                go_wp2_with fail
                go_roundg (us.length - (0 + 1))
                case measure => omega
                case rel => exact ⟨0 + 1, by omega, rfl, by go_num, unhide Hb⟩
            · obtain ⟨i, rfl⟩ : ∃ i, j = i + 1 := ⟨j - 1, by omega⟩
              obtain ⟨u9, p9, hu9, hp9, hL9, d9⟩ := hk.at (i := i) (by omega)
              have hP9 := unhide HP p9 (List.mem_of_getElem? hp9)
              have Hw9 := hide (fun wx : World => whole_any u9 wx (by have := word_size hP9 hL9; omega))
              rw [hL9, whl_word hP9] at Hw9
              obtain ⟨s9, n9⟩ := p9
              simp only at Hw9
              have e126 : (s1 == 126) = false := by rcases hc4 with rfl | rfl | rfl | rfl <;> rfl
              have hii : ((i + 1 : Nat) : Int) = (i : Int) + 1 := by omega
              have hgt : (1 : Int) < (i : Int) + 1 + 1 := by omega
              have hii2 : ((i + 1 + 1 : Nat) : Int) = (i : Int) + 2 := by omega
              cases h489 : (s9 == 48) with
              | false =>
                rw [h489] at Hw9
                simp only [Bool.false_eq_true, if_false] at Hw9
                clear hk hP1 hP0 hu1 hu0 hL0 hw1 ho h48 hin0 hu9 hL9 hP9 hj0
                rcases hc4 with rfl | rfl | rfl | rfl
                all_goals
                  first | rw [lit43] at hL1 | rw [lit45] at hL1 | rw [lit42] at hL1 | rw [lit47] at hL1 | rw [lit126] at hL1
                  obtain rfl := one_byte hL1
                  clear hL1
                  go_wp2_with fail
                  refine (unhide Ha1 _).mono ?_
                  rintro e w1 ⟨rfl, rfl⟩
                  go_wp2_with fail
                  refine (unhide Hw0 _).mono ?_
                  rintro e w1 ⟨rfl, rfl⟩
                  go_wp2_with fail
                  refine (unhide Hw9 _).mono ?_
                  rintro e w1 ⟨rfl, rfl⟩
                  go_wp2_with fail
                  go_roundg (us.length - (i + 1 + 1))
                  case measure => omega
                  case rel => exact ⟨i + 1 + 1, by omega, rfl, by go_num, unhide Hb⟩
              | true =>
                rw [h489] at Hw9
                simp only [if_true] at Hw9
                obtain rfl : s9 = 48 := by simpa using h489
                have hin9 := hP9.2
                simp only at hin9
                have hd := nf_bin (unhide HN) ho e126 hp1 hp0 hp9
                have Hdn := hide (fun wx : World => done_any s1 (n9, 0) (n0, 0) wx hin9 hin0)
                obtain ⟨d, hdd⟩ : ∃ d, don s1 (n9, 0) (n0, 0) = d := ⟨_, rfl⟩
                rw [hdd] at hd Hdn
                obtain ⟨da, db⟩ := d
                simp only at hd
                have hdb : (db == 0) = false := by simpa using hd
                unfold clV at Hdn
                simp only at Hdn
                clear hk hP1 hP0 hu1 hu0 hL0 hw1 ho h48 hin0 hu9 hL9 hP9 hj0 hdd h489
                rcases hc4 with rfl | rfl | rfl | rfl
                all_goals
                  first | rw [lit43] at hL1 | rw [lit45] at hL1 | rw [lit42] at hL1 | rw [lit47] at hL1 | rw [lit126] at hL1
                  obtain rfl := one_byte hL1
                  clear hL1
                  go_wp2_with fail
                  refine (unhide Ha1 _).mono ?_
                  rintro e w1 ⟨rfl, rfl⟩
                  go_wp2_with fail
                  refine (unhide Hw0 _).mono ?_
                  rintro e w1 ⟨rfl, rfl⟩
                  go_wp2_with fail
                  refine (unhide Hw9 _).mono ?_
                  rintro e w1 ⟨rfl, rfl⟩
                  go_wp2_with fail
                  refine (unhide Hdn _).mono ?_
                  rintro e w2 ⟨rfl, hb2⟩
                  have Hb2 := hide ((unhide Hb).then' hsz hb2)
                  have hsz2 := (unhide Hb2).size
                  clear hb2
                  go_wp2_with fail
                  go_roundg (us.length - (i + 1 + 1))
                  case measure => omega
                  case rel => exact ⟨i + 1 + 1, by omega, rfl, by go_num, (unhide Hb2).alloc hsz2 _⟩
    · have hge : ¬ (j : Int) + 1 < (us.length : Int) := by omega
      go_wp2_with fail
      go_ret
      exact ⟨rfl, unhide Hb⟩

end Go.Proofs.YtfancgphkcjgmaaGreatDoor
namespace Go.Proofs.YtfancgphkcjgmaaGreatDoor
open Go.RowKit Db

def cellsG (l : List Cl) : List Value := l.flatMap fun c => [.int .i64 (gst c.2), .int .i64 c.1]
theorem cellsG_snoc (l : List Cl) (c : Cl) : cellsG (l ++ [c]) = cellsG l ++ [.int .i64 (gst c.2), .int .i64 c.1] := by simp [cellsG]
theorem cellsG_append (p q : List Cl) : cellsG (p ++ q) = cellsG p ++ cellsG q := by simp [cellsG]
theorem cellsG_length (p : List Cl) : (cellsG p).length = p.length * 2 := by
  induction p with
  | nil => rfl
  | cons x t ih => show (_ :: _ :: cellsG t).length = _; simp [ih]; omega
/-- Rows of cells as they lie in the program's sheet. -/
structure GCells (w : World) (B : Nat) (vc : Value) (vs : List Value) (cells : List (List Cl)) : Prop where
  own : w.ownsRow B 220 1 vc vs.length vs
  len : vs.length = cells.length
  row : ∀ (i : Nat) v c, vs[i]? = some v → cells[i]? = some c → w.ownsRow B 223 2 v c.length (cellsG c)
theorem GCells.kept {w w' : World} {B : Nat} {vc : Value} {vs : List Value} {cells : List (List Cl)} (h : GCells w B vc vs cells) (hb : Below w.heap.size w w') : GCells w' B vc vs cells :=
  ⟨ownsRow_below h.own hb, h.len, fun i v c h1 h2 => ownsRow_below (h.row i v c h1 h2) hb⟩
theorem GCells.nil (w : World) (B : Nat) : GCells w B (.slice none 0 0) [] [] := ⟨World.ownsRow_nil _ _ _ _, rfl, by intro i v c h; simp at h⟩
/-- The sheet, as it lies at q: the periods, the ledger at p, the cells so far. -/
structure ShtAt (w : World) (q : Nat) (b : Bk) (pd : List (List UInt8 × List UInt8)) (cells : List (List Cl)) (p : Nat) (vp vc : Value) (vs : List Value) : Prop where
  blk : Blk w q #[vp, .pointer (some ⟨p, 0, none⟩), vc] 179
  led : ∃ B, Led w B p b
  per : ∃ B, w.ownsRow B 189 2 vp pd.length (cellsD pd)
  cs : GCells w (q + 1) vc vs cells
  wid : ∀ row ∈ cells, row.length = pd.length
  few : pd.length ≤ 4 ∧ cells.length ≤ 8
  ok : ∀ row ∈ cells, ∀ c ∈ row, ClOk c
theorem Led.kept {w w' : World} {B p : Nat} {s : Bk} (h : Led w B p s) (hb : Below w.heap.size w w') : Led w' B p s := by
  obtain ⟨a, c, d, h⟩ := h
  exact ⟨a, c, d, h.kept hb⟩
theorem ShtAt.kept {w w' : World} {q : Nat} {b : Bk} {pd : List (List UInt8 × List UInt8)} {cells : List (List Cl)} {p : Nat} {vp vc : Value} {vs : List Value} (h : ShtAt w q b pd cells p vp vc vs) (hb : Below w.heap.size w w') : ShtAt w' q b pd cells p vp vc vs :=
  ⟨h.blk.kept hb, (let ⟨B, hl⟩ := h.led; ⟨B, hl.kept hb⟩), (let ⟨B, hl⟩ := h.per; ⟨B, ownsRow_below hl hb⟩), h.cs.kept hb, h.wid, h.few, h.ok⟩
def Sht' (w : World) (q : Nat) (b : Bk) (pd : List (List UInt8 × List UInt8)) (cells : List (List Cl)) : Prop := ∃ p vp vc vs, ShtAt w q b pd cells p vp vc vs
theorem Sht'.kept {w w' : World} {q : Nat} {b : Bk} {pd : List (List UInt8 × List UInt8)} {cells : List (List Cl)} (h : Sht' w q b pd cells) (hb : Below w.heap.size w w') : Sht' w' q b pd cells := by
  obtain ⟨p, vp, vc, vs, h⟩ := h
  exact ⟨p, vp, vc, vs, h.kept hb⟩
theorem Sht'.good {w : World} {q : Nat} {b : Bk} {pd : List (List UInt8 × List UInt8)} {cells : List (List Cl)} (h : Sht' w q b pd cells) : BkGood b := by
  obtain ⟨_, _, _, _, h⟩ := h
  obtain ⟨_, _, _, _, h⟩ := h.led
  exact h.good

set_option maxRecDepth 100000 in
set_option maxHeartbeats 1000000 in
theorem namesAccount_any (s n : Int) (w : World) :
    Calls Tryz.prog 158 #[.agg #[.int .u8 s, .int .i64 n]] w fun e w' => e = .returned (.bool (selB s)) ∧ Below w.heap.size w w' := by
  by_cases h1 : (s == 64) = true <;> by_cases h2 : (s == 33) = true
  all_goals
    go_enter Tryz.func158, Tryz.ntmps158
    go_wp2_with fail
    go_ret
    exact ⟨by simp_all [selB], (Below.refl _ _).alloc (Nat.le_refl _) _⟩

set_option maxRecDepth 100000 in
set_option maxHeartbeats 1000000 in
theorem has_any (B p : Nat) (s : Bk) (a : Int) (w : World) (h : Led w B p s) :
    Calls Tryz.prog 159 #[.pointer (some ⟨p, 0, none⟩), .int .i64 a] w fun e w' => e = .returned (.bool (ther s a)) ∧ w' = w := by
  obtain ⟨va, vt, tv, h⟩ := h
  obtain ⟨g, cap, rfl, hg, hg'⟩ := ownsRow_some h.acs h.good.one
  have c0 := h.blk.cell 0
  have hpl := h.blk.lt
  simp only [List.getElem?_toArray, List.getElem?_cons_zero] at c0
  have hfew := h.good.few
  obtain ⟨r, hr⟩ : ∃ r, ther s a = r := ⟨_, rfl⟩
  rw [hr]
  unfold ther at hr
  clear h
  by_cases h1 : 0 ≤ a
  · by_cases h2 : a < s.acs.length
    · obtain rfl : r = true := by rw [← hr]; simp [h1, h2]
      clear hr
      go_enter Tryz.func159, Tryz.ntmps159
      go_wp2_with fail
      go_ret
      exact ⟨rfl, rfl⟩
    · obtain rfl : r = false := by rw [← hr]; simp [h2]
      clear hr
      go_enter Tryz.func159, Tryz.ntmps159
      go_wp2_with fail
      go_ret
      exact ⟨rfl, rfl⟩
  · obtain rfl : r = false := by rw [← hr]; simp [h1]
    clear hr
    go_enter Tryz.func159, Tryz.ntmps159
    go_wp2_with fail
    go_ret
    exact ⟨rfl, rfl⟩

set_option maxRecDepth 100000 in
set_option maxHeartbeats 1000000 in
theorem gText_any (c : Cl) (w : World) (hc : ClOk c) (ht : Tab w) :
    Calls Tryz.prog 161 #[gV c] w fun e w' => ∃ u : ByteArray, e = .returned (.string u) ∧ L u = cellT c ∧ u.size ≤ 21 ∧ Below w.heap.size w w' := by
  rcases hc with ⟨h0, hin⟩ | rfl | rfl
  · obtain ⟨a, b⟩ := c
    simp only at h0 hin
    subst h0
    unfold gV
    rw [gst_z0]
    have hr := inR_iff.1 hin
    have Ht := hide ht
    simp only
    clear hin ht
    go_enter Tryz.func161, Tryz.ntmps161
    go_wp2_with fail
    refine (itoa_any a _ hr.1 hr.2 ((unhide Ht).below (by exact (Below.refl _ _).alloc (Nat.le_refl _) _))).mono ?_
    rintro e w1 ⟨u, rfl, hu, hb⟩
    have Hu := hide hu
    have Hb : Hid (Below w.heap.size w w1) := ((Below.refl _ _).alloc (Nat.le_refl _) _).then' (by simp) hb
    clear hu hb
    go_wp2_with fail
    go_ret
    exact ⟨u, rfl, unhide Hu, itoa_size hr.1 hr.2 (unhide Hu), unhide Hb⟩
  all_goals
    unfold gV gst
    clear ht
    go_enter Tryz.func161, Tryz.ntmps161
    go_wp2_with fail
    go_ret
    exact ⟨_, rfl, rfl, by decide, (Below.refl _ _).alloc (Nat.le_refl _) _⟩

end Go.Proofs.YtfancgphkcjgmaaGreatDoor
namespace Go.Proofs.YtfancgphkcjgmaaGreatDoor
open Go.RowKit Db

theorem selq_drop {q : Int → Bool} {ps : List Pt} {k : Nat} {p : Pt} (h : ps[k]? = some p) : selq q (ps.drop k) = ((selB p.1 && q p.2) || selq q (ps.drop (k + 1))) := any_drop (f := fun p : Pt => selB p.1 && q p.2) h

set_option maxRecDepth 100000 in
set_option maxHeartbeats 4000000 in
theorem sHasAccounts_any (Bl p : Nat) (b : Bk) (vr : Value) (vs : List Value) (pss : List (List Pt)) (B : Nat) (w : World) (hl : Led w Bl p b) (h : RowsAt w B vr vs pss) (h8 : pss.length ≤ 8) :
    Calls Tryz.prog 118 #[.pointer (some ⟨p, 0, none⟩), vr] w fun e w' => e = .returned (.bool (!pss.any (selq (notB b)))) ∧ Below w.heap.size w w' := by
  obtain ⟨ao, cap, rfl⟩ := ownsRow_form h.own
  have hvl : vs.length ≤ 8 := by rw [h.len]; exact h8
  have Hlen := hide h.len
  have H := hide h
  have HL := hide hl
  clear h hl
  go_enter Tryz.func118, Tryz.ntmps118
  go_wp2_with fail
  go_loopg [11] vs.length (fun m i wr => ∃ j : Nat, j ≤ vs.length ∧ m = vs.length - j ∧ i = .int .i64 j ∧ Hid ((pss.drop j).any (selq (notB b)) = pss.any (selq (notB b))) ∧ Hid (Below w.heap.size w wr))
  case atStart => exact ⟨0, by omega, rfl, rfl, rfl, Below.refl _ _⟩
  case round =>
    obtain ⟨j, hj, rfl, rfl, Hany, Hb⟩ := hrel
    have hsz := (unhide Hb).size
    by_cases hlt : j < vs.length
    · obtain ⟨v, hv⟩ : ∃ v, vs[j]? = some v := ⟨vs[j], List.getElem?_eq_getElem hlt⟩
      obtain ⟨ps, hps⟩ : ∃ ps, pss[j]? = some ps := ⟨pss[j]'(by have := unhide Hlen; omega), List.getElem?_eq_getElem _⟩
      obtain ⟨g, _, e1, hg, hg'⟩ := ownsRow_some (unhide H).own (by omega)
      simp only [Value.slice.injEq, true_and] at e1
      obtain ⟨rfl, rfl⟩ := e1
      have hro := ownsRow_below (unhide H).own (unhide Hb)
      have d := ownsRow_cell hro (j := j) hv
      have hrow := (unhide H).row j v ps hv hps
      have hpl := (unhide H).bd ps (List.mem_of_getElem? hps)
      obtain ⟨aop, capp, rfl⟩ := ownsRow_form hrow
      have Hrow := hide hrow
      have Hdr := hide (any_drop (f := selq (notB b)) hps)
      clear hro hv hps hrow
      go_wp2_with fail
      obtain ⟨W, hW⟩ : ∃ W, wr.alloc (.cells #[.slice aop ps.length capp] 155) = W := ⟨_, rfl⟩
      rw [hW]
      have HbW : Hid (Below w.heap.size w W) := by rw [← hW]; exact (unhide Hb).alloc hsz _
      clear hW
      go_loopg [18] ps.length (fun m i wx => ∃ k : Nat, k ≤ ps.length ∧ m = ps.length - k ∧ i = .int .i64 k ∧ Hid (selq (notB b) (ps.drop k) = selq (notB b) ps) ∧ Hid (Below w.heap.size w wx))
      case atStart => exact ⟨0, by omega, rfl, rfl, rfl, unhide HbW⟩
      case round =>
        obtain ⟨k, hk, rfl, rfl, Hs, Hbx⟩ := hrel
        have hszx := (unhide Hbx).size
        by_cases hlk : k < ps.length
        · obtain ⟨⟨sg, nm⟩, hp⟩ : ∃ q, ps[k]? = some q := ⟨ps[k], List.getElem?_eq_getElem hlk⟩
          obtain ⟨g2, _, e1, hg2, hg2'⟩ := ownsRow_some (unhide Hrow) (by omega)
          simp only [Value.slice.injEq, true_and] at e1
          obtain ⟨rfl, rfl⟩ := e1
          have hro := ownsRow_below (unhide Hrow) (unhide Hbx)
          have h2 := two_get (fun p : Pt => Value.int .u8 p.1) (fun p => Value.int .i64 p.2) ps k (sg, nm) hp
          have d1 := ownsRow_cell hro (j := k * 2) h2.1
          have d2 := ownsRow_cell hro (j := k * 2 + 1) h2.2
          have Hst := hide (selq_drop (q := notB b) hp)
          simp only at d1 d2 Hst
          obtain ⟨sel, hsel⟩ : ∃ sel, selB sg = sel := ⟨_, rfl⟩
          have Hna := hide (fun wx : World => namesAccount_any sg nm wx)
          rw [hsel] at Hst Hna
          clear hro h2 hp hsel
          go_wp2_with fail
          refine (unhide Hna _).mono ?_
          rintro e w2 ⟨rfl, hb2⟩
          have f1 := hb2.cell (p := ⟨wr.heap.size, 1, none⟩) (by simp)
          simp at f1
          have hsz2 := hb2.size
          simp at hsz2
          have Hb2 := hide (((unhide Hbx).alloc hszx _).then' (by simp; omega) hb2)
          clear hb2 Hna
          cases sel with
          | false =>
            go_wp2_with fail
            go_roundg (ps.length - (k + 1))
            case measure => omega
            case rel => exact ⟨k + 1, by omega, rfl, by go_num, by show _ = _; rw [← unhide Hs, unhide Hst]; simp, unhide Hb2⟩
          | true =>
            have Hha := hide (has_any Bl p b nm w2 ((unhide HL).kept (unhide Hb2)))
            obtain ⟨th, hth⟩ : ∃ th, ther b nm = th := ⟨_, rfl⟩
            rw [show notB b nm = !th by unfold notB; rw [hth]] at Hst
            rw [hth] at Hha
            clear hth
            go_wp2_with fail
            refine (unhide Hha).mono ?_
            rintro e w3 ⟨rfl, rfl⟩
            cases th with
            | true =>
              go_wp2_with fail
              go_roundg (ps.length - (k + 1))
              case measure => omega
              case rel => exact ⟨k + 1, by omega, rfl, by go_num, by show _ = _; rw [← unhide Hs, unhide Hst]; simp, unhide Hb2⟩
            | false =>
              go_wp2_with fail
              go_ret
              exact ⟨retB' (by rw [← unhide Hany, unhide Hdr, ← unhide Hs, unhide Hst]; simp), unhide Hb2⟩
        · obtain rfl : k = ps.length := by omega
          have Hno : Hid (selq (notB b) ps = false) := by show _ = _; rw [← unhide Hs, List.drop_length]; rfl
          go_wp2_with fail
          go_roundg (vs.length - (j + 1))
          case measure => omega
          case rel => exact ⟨j + 1, by omega, rfl, by go_num, by show _ = _; rw [← unhide Hany, unhide Hdr, unhide Hno]; simp, unhide Hbx⟩
    · obtain rfl : j = vs.length := by omega
      go_wp2_with fail
      go_ret
      exact ⟨retB' (by rw [← unhide Hany, unhide Hlen, List.drop_length]; rfl), unhide Hb⟩

/-- The cells that a name reads. -/
theorem grow_get {w : World} {q : Nat} {b : Bk} {pd : List (List UInt8 × List UInt8)} {cells : List (List Cl)} {p : Nat} {vp vc : Value} {vs : List Value} (h : ShtAt w q b pd cells p vp vc vs) {n k : Nat} (hn : n < cells.length) (hk : k < pd.length) :
    ∃ gc capc gr capr x y, vc = .slice (some ⟨gc, 0, none⟩) cells.length capc ∧ w.cell? ⟨gc, n, none⟩ = some (.slice (some ⟨gr, 0, none⟩) pd.length capr) ∧ w.cell? ⟨gr, k * 2, none⟩ = some (.int .i64 (gst y)) ∧ w.cell? ⟨gr, k * 2 + 1, none⟩ = some (.int .i64 x) ∧ (cells.getD n []).getD k (0, 0) = (x, y) ∧ gc < w.heap.size ∧ gr < w.heap.size := by
  obtain ⟨v, hv⟩ : ∃ v, vs[n]? = some v := ⟨vs[n]'(by rw [h.cs.len]; exact hn), List.getElem?_eq_getElem _⟩
  obtain ⟨c, hc⟩ : ∃ c, cells[n]? = some c := ⟨cells[n], List.getElem?_eq_getElem hn⟩
  have hr := h.cs.row n v c hv hc
  have hcl := h.wid c (List.mem_of_getElem? hc)
  obtain ⟨gc, capc, rfl, hg, hg'⟩ := ownsRow_some h.cs.own (by rw [h.cs.len]; omega)
  obtain ⟨gr, capr, rfl, hr1, hr2⟩ := ownsRow_some hr (by omega)
  obtain ⟨x, hx⟩ : ∃ x, c[k]? = some x := ⟨c[k]'(by omega), List.getElem?_eq_getElem _⟩
  have h2 := two_get (fun c : Cl => Value.int .i64 (gst c.2)) (fun c => Value.int .i64 c.1) c k x hx
  have d0 := ownsRow_cell h.cs.own (j := n) hv
  have d1 := ownsRow_cell hr (j := k * 2) h2.1
  have d2 := ownsRow_cell hr (j := k * 2 + 1) h2.2
  refine ⟨gc, capc, gr, capr, x.1, x.2, by rw [h.cs.len], by rw [d0, hcl], d1, d2, ?_, hg', hr2⟩
  have e1 : cells.getD n [] = c := by rw [List.getD_eq_getElem?_getD, hc, Option.getD_some]
  rw [e1, List.getD_eq_getElem?_getD, hx, Option.getD_some]
theorem three_cells {W : World} {n : Nat} {a b c : Value} {T : TypeId} (B : Blk W n #[a, b, c] T) : W.cell? ⟨n, 0, none⟩ = some a ∧ W.cell? ⟨n, 1, none⟩ = some b ∧ W.cell? ⟨n, 2, none⟩ = some c := by
  refine ⟨?_, ?_, ?_⟩ <;> rw [B.cell] <;> rfl

set_option maxRecDepth 100000 in
set_option maxHeartbeats 2000000 in
theorem at_cell (q n k : Nat) (b : Bk) (pd : List (List UInt8 × List UInt8)) (cells : List (List Cl)) (w : World) (h : Sht' w q b pd cells) (hn : n < cells.length) (hk : k < pd.length) :
    Calls Tryz.prog 200 #[.pointer (some ⟨q, 0, none⟩), .int .i64 (n : Int), .int .i64 (k : Int)] w fun e w' => e = .returned (gV ((cells.getD n []).getD k (0, 0))) ∧ Below w.heap.size w w' := by
  obtain ⟨p, vp, vc, vs, h⟩ := h
  obtain ⟨gc, capc, gr, capr, x, y, rfl, r1, r2, r3, hxy, hgc, hgr⟩ := grow_get h hn hk
  rw [hxy]
  obtain ⟨c0, c1, c2⟩ := three_cells h.blk
  have hql := h.blk.lt
  have hf := h.few
  have hnc : (n : Int) < (cells.length : Int) := by omega
  have hkp : (k : Int) < (pd.length : Int) := by omega
  have hnn : ¬ (cells.length : Int) ≤ (n : Int) := by omega
  have hkk : ¬ (pd.length : Int) ≤ (k : Int) := by omega
  unfold gV
  simp only
  obtain ⟨z, hz⟩ : ∃ z, gst y = z := ⟨_, rfl⟩
  rw [hz] at r2 ⊢
  clear h hxy hz
  go_enter Tryz.func200, Tryz.ntmps200
  go_wp2_with fail
  refine bodyPost_ret (v := .agg #[.int .i64 z, .int .i64 x]) (by simp [results, Tryz.results200, go_sem]) rfl ⟨rfl, ?_⟩
  first
    | exact (((Below.refl _ _).alloc (Nat.le_refl _) _).setCell (by simp) _).setCell (by simp) _
    | exact (Below.refl _ _).alloc (Nat.le_refl _) _

set_option maxRecDepth 100000 in
set_option maxHeartbeats 2000000 in
theorem at_first (q n : Nat) (b : Bk) (pd : List (List UInt8 × List UInt8)) (cells : List (List Cl)) (w : World) (h : Sht' w q b pd cells) (hn : n < cells.length) (hk : 0 < pd.length) :
    Calls Tryz.prog 200 #[.pointer (some ⟨q, 0, none⟩), .int .i64 (n : Int), .int .i64 (-1)] w fun e w' => e = .returned (gV (0, 0)) ∧ Below w.heap.size w w' := by
  obtain ⟨p, vp, vc, vs, h⟩ := h
  obtain ⟨gc, capc, gr, capr, x, y, rfl, r1, r2, r3, hxy, hgc, hgr⟩ := grow_get h hn hk
  obtain ⟨c0, c1, c2⟩ := three_cells h.blk
  have hql := h.blk.lt
  have hf := h.few
  have hnc : (n : Int) < (cells.length : Int) := by omega
  have hnn : ¬ (cells.length : Int) ≤ (n : Int) := by omega
  unfold gV
  simp only
  rw [gst_z0]
  clear h hxy
  go_enter Tryz.func200, Tryz.ntmps200
  go_wp2_with fail
  refine (of_any 0 _).mono ?_
  rintro e w1 ⟨rfl, hb⟩
  have HB : Hid (Below w.heap.size w w1) := ((Below.refl _ _).alloc (Nat.le_refl _) _).then' (by simp) hb
  obtain ⟨r0, r1, z0, z1, lr⟩ := two_cells ((Blk.new w #[.int .i64 0, .int .i64 0] 223).kept hb)
  clear hb
  go_wp2_with fail
  refine bodyPost_ret (v := .agg #[.int .i64 0, .int .i64 0]) (by simp [results, Tryz.results200, go_sem, r0, r1]) rfl ⟨rfl, ?_⟩
  exact ((unhide HB).setCell (by simp) _).setCell (by simp) _

end Go.Proofs.YtfancgphkcjgmaaGreatDoor
namespace Go.Proofs.YtfancgphkcjgmaaGreatDoor
open Go.RowKit Db

/-- Two values lie in a new block, whichever was first: the block or the call. -/
structure CutQ (w3 wx : World) (g : Nat) (a b : Value) (T : TypeId) : Prop where
  ge : w3.heap.size ≤ g
  blk : Blk wx g #[a, b] T
  bel : Below w3.heap.size w3 wx
theorem cutQA {w3 w4 : World} {a b a0 b0 : Value} {T : TypeId} (h : Below (w3.drew.alloc (.cells #[a0, b0] T)).heap.size (w3.drew.alloc (.cells #[a0, b0] T)) w4) :
    CutQ w3 ((w4.setCell ⟨w3.heap.size, 0, none⟩ a).setCell ⟨w3.heap.size, 1, none⟩ b) w3.heap.size a b T := by
  have B0 : Blk w4 w3.heap.size #[a0, b0] T := (Blk.new w3.drew _ _).kept h
  have B1 := (B0.set 0 a).set 1 b
  have h0 : Below w3.heap.size w3.drew w4 := ((Below.refl _ w3.drew).alloc (Nat.le_refl _) _).then' (by simp) h
  exact ⟨Nat.le_refl _, by simpa using B1, (h0.undrew.setCell (by simp) _).setCell (by simp) _⟩
theorem cutQB {w3 w4 : World} {a b : Value} {T : TypeId} (h : Below w3.drew.heap.size w3.drew w4) : CutQ w3 (w4.alloc (.cells #[a, b] T)) w4.heap.size a b T := by
  have h0 : Below w3.heap.size w3 w4 := Below.undrew h
  exact ⟨h0.size, Blk.new _ _ _, h0.alloc h0.size _⟩
theorem kept_al {W W' : World} {o : Obj} (h : Below W.heap.size W W') {a : Addr} {v : Value} (hc : W.cell? a = some v) : (W'.alloc o).cell? a = some v := by
  have h1 := kept_cell' h hc
  rw [World.cell?_alloc_some _ _ _ (by rw [h1]; rfl)]; exact h1
/-- The days of a period. -/
theorem per_get {w : World} {B : Nat} {vp : Value} {pd : List (List UInt8 × List UInt8)} (h : w.ownsRow B 189 2 vp pd.length (cellsD pd)) {k : Nat} (hk : k < pd.length) :
    ∃ gp capp x y, vp = .slice (some ⟨gp, 0, none⟩) pd.length capp ∧ w.cell? ⟨gp, k * 2, none⟩ = some (.int .i64 x) ∧ w.cell? ⟨gp, k * 2 + 1, none⟩ = some (.int .i64 y) ∧ (pdv pd).getD k (0, 0) = (x, y) ∧ gp < w.heap.size := by
  obtain ⟨gp, capp, rfl, _, hf⟩ := ownsRow_some h (by omega)
  obtain ⟨p, hp⟩ : ∃ p, pd[k]? = some p := ⟨pd[k], List.getElem?_eq_getElem hk⟩
  have h2 := two_get (fun p : List UInt8 × List UInt8 => Value.int .i64 (val p.1)) (fun p => Value.int .i64 (val p.2)) pd k p hp
  have d1 := ownsRow_cell h (j := k * 2) h2.1
  have d2 := ownsRow_cell h (j := k * 2 + 1) h2.2
  refine ⟨gp, capp, _, _, rfl, d1, d2, ?_, hf⟩
  rw [List.getD_eq_getElem?_getD, show (pdv pd)[k]? = some (val p.1, val p.2) by unfold pdv; rw [List.getElem?_map, hp]; rfl, Option.getD_some]

/-- The sum, or how many. -/
def belS (s : Int) (u : Int × Int) : Int := if s == 35 then u.2 else u.1

set_option maxRecDepth 100000 in
set_option maxHeartbeats 4000000 in
theorem sMove_alone (q k : Nat) (n : Int) (b : Bk) (pd : List (List UInt8 × List UInt8)) (cells : List (List Cl)) (w : World) (h : Sht' w q b pd cells) (hk : k < pd.length) :
    Calls Tryz.prog 201 #[.pointer (some ⟨q, 0, none⟩), .agg #[.int .u8 33, .int .i64 n], .int .i64 (k : Int)] w fun e w' => e = .returned (.agg #[.int .i64 0, .int .i64 (aloneM b n ((pdv pd).getD k (0, 0)).1 ((pdv pd).getD k (0, 0)).2).1]) ∧ Below w.heap.size w w' := by
  obtain ⟨p, vp, vc, vs, h⟩ := h
  obtain ⟨Bp, hper⟩ := h.per
  obtain ⟨gp, capp, x, y, rfl, d1, d2, hxy, hgp⟩ := per_get hper hk
  obtain ⟨Bl, hled⟩ := h.led
  rw [hxy]
  simp only
  obtain ⟨c0, c1, c2⟩ := three_cells h.blk
  have hql := h.blk.lt
  have hf := h.few
  have hkp : (k : Int) < (pd.length : Int) := by omega
  have hkk : ¬ (pd.length : Int) ≤ (k : Int) := by omega
  obtain ⟨W3, hW3⟩ : ∃ W3, ((w.alloc (.cells #[.int .u8 33, .int .i64 n] 191)).alloc (.cells #[.int .i64 0, .int .i64 0] 223)).alloc (.cells #[.int .i64 x, .int .i64 y] 189) = W3 := ⟨_, rfl⟩
  have Hb3 : Hid (Below w.heap.size w W3) := by rw [← hW3]; exact (((Below.refl _ _).alloc (Nat.le_refl _) _).alloc (by simp) _).alloc (by simp; omega) _
  have hs3 : W3.heap.size = w.heap.size + 3 := by rw [← hW3]; simp
  have HP : Hid (Blk W3 w.heap.size #[.int .u8 33, .int .i64 n] 191) := by rw [← hW3]; exact ((Blk.new _ _ _).alloc _).alloc _
  have HC : Hid (Blk W3 (w.heap.size + 1) #[.int .i64 0, .int .i64 0] 223) := by
    rw [← hW3]
    show Blk _ _ _ _
    have := (Blk.new (w.alloc (.cells #[.int .u8 33, .int .i64 n] 191)) #[.int .i64 0, .int .i64 0] 223).alloc (.cells #[.int .i64 x, .int .i64 y] 189)
    simpa using this
  have HD : Hid (Blk W3 (w.heap.size + 2) #[.int .i64 x, .int .i64 y] 189) := by
    rw [← hW3]
    show Blk _ _ _ _
    have := Blk.new ((w.alloc (.cells #[.int .u8 33, .int .i64 n] 191)).alloc (.cells #[.int .i64 0, .int .i64 0] 223)) #[.int .i64 x, .int .i64 y] 189
    simpa using this
  have Hal := hide (fun (wx : World) (hb : Below w.heap.size w wx) => alone_any Bl p b n x y wx (hled.kept hb))
  obtain ⟨u, hu⟩ : ∃ u, aloneM b n x y = u := ⟨_, rfl⟩
  rw [hu] at Hal ⊢
  clear h hxy hper hled hu
  have q1 := ((unhide Hb3).cell (p := ⟨q, 1, none⟩) hql).trans c1
  have p0 := (unhide HP).cell 0
  have p1 := (unhide HP).cell 1
  have e0 := (unhide HD).cell 0
  have e1 := (unhide HD).cell 1
  simp only [List.getElem?_toArray, List.getElem?_cons_zero, List.getElem?_cons_succ] at p0 p1 e0 e1
  go_enter Tryz.func201, Tryz.ntmps201
  go_upto_region 5 with fail
  try rw [hW3]
  clear hW3 c0 c1 c2 d1 d2
  have HCA := hide (fun (w4 : World) => cutQA (w3 := W3) (w4 := w4) (a := .int .i64 u.1) (b := .int .i64 u.2) (a0 := .int .i64 0) (b0 := .int .i64 0) (T := 235))
  have HCB := hide (fun (w4 : World) => cutQB (w3 := W3) (w4 := w4) (a := .int .i64 u.1) (b := .int .i64 u.2) (T := 235))
  go_cut [8] (fun vj wx => ∃ g : Nat, vj = .pointer (some ⟨g, 0, none⟩) ∧ CutQ W3 wx g (.int .i64 u.1) (.int .i64 u.2) 235)
  case first =>
    have hql3 : q < W3.heap.size := by omega
    have hw31 : w.heap.size < W3.heap.size := by omega
    have hw32 : w.heap.size + 2 < W3.heap.size := by omega
    have hw33 : w.heap.size ≤ W3.heap.size := by omega
    have hne : W3.heap.size ≠ q := by omega
    have hne1 : W3.heap.size ≠ w.heap.size := by omega
    have hne2 : W3.heap.size ≠ w.heap.size + 2 := by omega
    clear hs3
    go_region_held3 (fun w' => w'.cell? ⟨q, 1, none⟩ = some (.pointer (some ⟨p, 0, none⟩)) ∧ w'.cell? ⟨w.heap.size, 1, none⟩ = some (.int .i64 n) ∧ w'.cell? ⟨w.heap.size + 2, 0, none⟩ = some (.int .i64 x) ∧ w'.cell? ⟨w.heap.size + 2, 1, none⟩ = some (.int .i64 y)) (first | go_keep | exact ⟨kept_cell' hb4 (by simp [*]), kept_cell' hb4 (by simp [*]), kept_cell' hb4 (by simp [*]), kept_cell' hb4 (by simp [*])⟩ | exact ⟨kept_al hb4 (by simp [*]), kept_al hb4 (by simp [*]), kept_al hb4 (by simp [*]), kept_al hb4 (by simp [*])⟩) (first | (go_at_call 174; refine (unhide Hal _ (by first | exact ((unhide Hb3).drew.alloc (by exact hw33) _) | exact (unhide Hb3).drew)).mono ?_; rintro e w4 ⟨rfl, hb4⟩; have k0 := fun h => hb4.cell (p := ⟨W3.heap.size, 0, none⟩) h; have k1 := fun h => hb4.cell (p := ⟨W3.heap.size, 1, none⟩) h; have y0 := fun h => hb4.frozen (p := ⟨W3.heap.size, 0, none⟩) h; have y1 := fun h => hb4.frozen (p := ⟨W3.heap.size, 1, none⟩) h; simp at k0 k1 y0 y1))
    all_goals (try go_wp2_with fail)
    all_goals go_meet
    all_goals first
      | exact ⟨W3.heap.size, rfl, unhide HCA w4 hb4⟩
      | exact ⟨w4.heap.size, rfl, unhide HCB w4 hb4⟩
  case rest =>
    obtain ⟨g, rfl, hr⟩ := hcut
    obtain ⟨m0, m1, _, _, lm⟩ := two_cells hr.blk
    have Hbr := hide ((unhide Hb3).then' (by omega) hr.bel)
    have HCr := hide ((unhide HC).kept hr.bel)
    have hszr := hr.bel.size
    clear hr
    go_wp2_with fail
    refine (of_any u.1 _).mono ?_
    rintro e w6 ⟨rfl, hb6⟩
    obtain ⟨r0, r1, z0, z1, lr⟩ := two_cells ((unhide HCr).kept hb6)
    have Hb6 := hide ((unhide Hbr).then' (by omega) hb6)
    clear hb6
    go_wp2_with fail
    refine bodyPost_ret (v := .agg #[.int .i64 0, .int .i64 u.1]) (by simp [results, Tryz.results201, go_sem, r0, r1]) rfl ⟨rfl, ?_⟩
    exact ((unhide Hb6).setCell (by simp) _).setCell (by simp) _

set_option maxRecDepth 100000 in
set_option maxHeartbeats 4000000 in
theorem sMove_below (q k : Nat) (s n : Int) (h33 : (s == 33) = false) (b : Bk) (pd : List (List UInt8 × List UInt8)) (cells : List (List Cl)) (w : World) (h : Sht' w q b pd cells) (hk : k < pd.length) :
    Calls Tryz.prog 201 #[.pointer (some ⟨q, 0, none⟩), .agg #[.int .u8 s, .int .i64 n], .int .i64 (k : Int)] w fun e w' => e = .returned (.agg #[.int .i64 0, .int .i64 (belS s (belowM b n ((pdv pd).getD k (0, 0)).1 ((pdv pd).getD k (0, 0)).2))]) ∧ Below w.heap.size w w' := by
  obtain ⟨p, vp, vc, vs, h⟩ := h
  obtain ⟨Bp, hper⟩ := h.per
  obtain ⟨gp, capp, x, y, rfl, d1, d2, hxy, hgp⟩ := per_get hper hk
  obtain ⟨Bl, hled⟩ := h.led
  rw [hxy]
  simp only
  obtain ⟨c0, c1, c2⟩ := three_cells h.blk
  have hql := h.blk.lt
  have hf := h.few
  have hkp : (k : Int) < (pd.length : Int) := by omega
  have hkk : ¬ (pd.length : Int) ≤ (k : Int) := by omega
  obtain ⟨W3, hW3⟩ : ∃ W3, ((w.alloc (.cells #[.int .u8 s, .int .i64 n] 191)).alloc (.cells #[.int .i64 0, .int .i64 0] 223)).alloc (.cells #[.int .i64 x, .int .i64 y] 189) = W3 := ⟨_, rfl⟩
  have Hb3 : Hid (Below w.heap.size w W3) := by rw [← hW3]; exact (((Below.refl _ _).alloc (Nat.le_refl _) _).alloc (by simp) _).alloc (by simp; omega) _
  have hs3 : W3.heap.size = w.heap.size + 3 := by rw [← hW3]; simp
  have HP : Hid (Blk W3 w.heap.size #[.int .u8 s, .int .i64 n] 191) := by rw [← hW3]; exact ((Blk.new _ _ _).alloc _).alloc _
  have HC : Hid (Blk W3 (w.heap.size + 1) #[.int .i64 0, .int .i64 0] 223) := by
    rw [← hW3]
    show Blk _ _ _ _
    have := (Blk.new (w.alloc (.cells #[.int .u8 s, .int .i64 n] 191)) #[.int .i64 0, .int .i64 0] 223).alloc (.cells #[.int .i64 x, .int .i64 y] 189)
    simpa using this
  have HD : Hid (Blk W3 (w.heap.size + 2) #[.int .i64 x, .int .i64 y] 189) := by
    rw [← hW3]
    show Blk _ _ _ _
    have := Blk.new ((w.alloc (.cells #[.int .u8 s, .int .i64 n] 191)).alloc (.cells #[.int .i64 0, .int .i64 0] 223)) #[.int .i64 x, .int .i64 y] 189
    simpa using this
  have Hal := hide (fun (wx : World) (hb : Below w.heap.size w wx) => below_any Bl p b n x y wx (hled.kept hb))
  obtain ⟨u, hu⟩ : ∃ u, belowM b n x y = u := ⟨_, rfl⟩
  rw [hu] at Hal ⊢
  clear h hxy hper hled hu
  have q1 := ((unhide Hb3).cell (p := ⟨q, 1, none⟩) hql).trans c1
  have p0 := (unhide HP).cell 0
  have p1 := (unhide HP).cell 1
  have e0 := (unhide HD).cell 0
  have e1 := (unhide HD).cell 1
  simp only [List.getElem?_toArray, List.getElem?_cons_zero, List.getElem?_cons_succ] at p0 p1 e0 e1
  go_enter Tryz.func201, Tryz.ntmps201
  go_upto_region 7 with fail
  try rw [hW3]
  clear hW3 c0 c1 c2 d1 d2
  have HCA := hide (fun (w4 : World) => cutQA (w3 := W3) (w4 := w4) (a := .int .i64 u.1) (b := .int .i64 u.2) (a0 := .int .i64 0) (b0 := .int .i64 0) (T := 235))
  have HCB := hide (fun (w4 : World) => cutQB (w3 := W3) (w4 := w4) (a := .int .i64 u.1) (b := .int .i64 u.2) (T := 235))
  go_cut [9] (fun vj wx => ∃ g : Nat, vj = .pointer (some ⟨g, 0, none⟩) ∧ CutQ W3 wx g (.int .i64 u.1) (.int .i64 u.2) 235)
  case first =>
    have hql3 : q < W3.heap.size := by omega
    have hw31 : w.heap.size < W3.heap.size := by omega
    have hw32 : w.heap.size + 2 < W3.heap.size := by omega
    have hw33 : w.heap.size ≤ W3.heap.size := by omega
    have hne : W3.heap.size ≠ q := by omega
    have hne1 : W3.heap.size ≠ w.heap.size := by omega
    have hne2 : W3.heap.size ≠ w.heap.size + 2 := by omega
    clear hs3
    go_region_held3 (fun w' => w'.cell? ⟨q, 1, none⟩ = some (.pointer (some ⟨p, 0, none⟩)) ∧ w'.cell? ⟨w.heap.size, 1, none⟩ = some (.int .i64 n) ∧ w'.cell? ⟨w.heap.size + 2, 0, none⟩ = some (.int .i64 x) ∧ w'.cell? ⟨w.heap.size + 2, 1, none⟩ = some (.int .i64 y)) (first | go_keep | exact ⟨kept_cell' hb4 (by simp [*]), kept_cell' hb4 (by simp [*]), kept_cell' hb4 (by simp [*]), kept_cell' hb4 (by simp [*])⟩ | exact ⟨kept_al hb4 (by simp [*]), kept_al hb4 (by simp [*]), kept_al hb4 (by simp [*]), kept_al hb4 (by simp [*])⟩) (first | (go_at_call 209; refine (unhide Hal _ (by first | exact ((unhide Hb3).drew.alloc (by exact hw33) _) | exact (unhide Hb3).drew)).mono ?_; rintro e w4 ⟨rfl, hb4⟩; have k0 := fun h => hb4.cell (p := ⟨W3.heap.size, 0, none⟩) h; have k1 := fun h => hb4.cell (p := ⟨W3.heap.size, 1, none⟩) h; have y0 := fun h => hb4.frozen (p := ⟨W3.heap.size, 0, none⟩) h; have y1 := fun h => hb4.frozen (p := ⟨W3.heap.size, 1, none⟩) h; simp at k0 k1 y0 y1))
    all_goals (try go_wp2_with fail)
    all_goals go_meet
    all_goals first
      | exact ⟨W3.heap.size, rfl, unhide HCA w4 hb4⟩
      | exact ⟨w4.heap.size, rfl, unhide HCB w4 hb4⟩
  case rest =>
    obtain ⟨g, rfl, hr⟩ := hcut
    obtain ⟨m0, m1, _, _, lm⟩ := two_cells hr.blk
    have Hbr := hide ((unhide Hb3).then' (by omega) hr.bel)
    have HCr := hide ((unhide HC).kept hr.bel)
    have hszr := hr.bel.size
    have HPr := hide ((unhide HP).kept hr.bel)
    have s0 := (unhide HPr).cell 0
    simp only [List.getElem?_toArray, List.getElem?_cons_zero] at s0
    clear hr
    cases h35 : (s == 35) with
    | true =>
      have Hr : Hid (belS s u = u.2) := by show _ = _; unfold belS; rw [h35]; rfl
      go_wp2_with fail
      refine (of_any u.2 _).mono ?_
      rintro e w6 ⟨rfl, hb6⟩
      obtain ⟨r0, r1, z0, z1, lr⟩ := two_cells ((unhide HCr).kept hb6)
      have Hb6 := hide ((unhide Hbr).then' (by omega) hb6)
      clear hb6
      go_wp2_with fail
      refine bodyPost_ret (v := .agg #[.int .i64 0, .int .i64 u.2]) (by simp [results, Tryz.results201, go_sem, r0, r1]) rfl ⟨by rw [unhide Hr], ?_⟩
      exact ((unhide Hb6).setCell (by simp) _).setCell (by simp) _
    | false =>
      have Hr : Hid (belS s u = u.1) := by show _ = _; unfold belS; rw [h35]; rfl
      go_wp2_with fail
      refine (of_any u.1 _).mono ?_
      rintro e w6 ⟨rfl, hb6⟩
      obtain ⟨r0, r1, z0, z1, lr⟩ := two_cells ((unhide HCr).kept hb6)
      have Hb6 := hide ((unhide Hbr).then' (by omega) hb6)
      clear hb6
      go_wp2_with fail
      refine bodyPost_ret (v := .agg #[.int .i64 0, .int .i64 u.1]) (by simp [results, Tryz.results201, go_sem, r0, r1]) rfl ⟨by rw [unhide Hr], ?_⟩
      exact ((unhide Hb6).setCell (by simp) _).setCell (by simp) _

end Go.Proofs.YtfancgphkcjgmaaGreatDoor
