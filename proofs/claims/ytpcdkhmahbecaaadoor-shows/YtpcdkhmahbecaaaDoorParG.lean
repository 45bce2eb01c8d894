/- The rows of a report. -/
import Derived.Test.YtpcdkhmahbecaaaDoorParF
namespace Db

/-- Rows and their parts. -/
def RowsS (rows : List (List UInt8)) (pss : List (List Pt)) : Prop := rows.length = pss.length ∧ ∀ (i : Nat) e ps, rows[i]? = some e → pss[i]? = some ps → ExpS e ps
theorem RowsS.nil : RowsS [] [] := ⟨rfl, by intro i e ps h; simp at h⟩
theorem RowsS.snoc {rows : List (List UInt8)} {pss : List (List Pt)} (h : RowsS rows pss) {e : List UInt8} {ps : List Pt} (he : ExpS e ps) : RowsS (rows ++ [e]) (pss ++ [ps]) := by
  refine ⟨by simp [h.1], ?_⟩
  intro i e' ps' h1 h2
  by_cases hi : i < rows.length
  · rw [List.getElem?_append_left hi] at h1
    rw [List.getElem?_append_left (by rw [← h.1]; exact hi)] at h2
    exact h.2 i e' ps' h1 h2
  · rw [List.getElem?_append_right (by omega)] at h1
    rw [List.getElem?_append_right (by rw [← h.1]; omega)] at h2
    rw [← h.1] at h2
    match hk : i - rows.length, h1, h2 with
    | 0, h1, h2 => simp at h1 h2; subst h1 h2; exact he
    | k + 1, h1, h2 => simp at h1

/-- Some rows have been read, each with its semicolon. -/
structure RowSt (l l' : List UInt8) (rows : List (List UInt8)) (pss : List (List Pt)) : Prop where
  ex : ∃ x, l = x ++ l' ∧ (∀ i : Int, plc 6 0 0 i l = plc 6 0 0 (i + x.length) l') ∧ (∀ r, split (bare x ++ r) 59 = rows ++ split r 59) ∧ ∀ c ∈ bare x, ¬ c.toNat = 124
  rs : RowsS rows pss
/-- The rows have been read. -/
structure RowEnd (l : List UInt8) (ok : Bool) (l' : List UInt8) (rows : List (List UInt8)) (pss : List (List Pt)) : Prop where
  yes : ok = true → (∀ i : Int, plc 6 0 0 i l = -1) ∧ split (bare l) 59 = rows ∧ (∀ c ∈ bare l, ¬ c.toNat = 124) ∧ RowsS rows pss
  no : ok = false → ∃ x, l = x ++ l' ∧ ∀ i : Int, plc 6 0 0 i l = i + x.length

theorem RowSt.start (l : List UInt8) : RowSt l l [] [] := ⟨⟨[], rfl, fun i => by simp, fun r => by simp [bare], by simp [bare]⟩, RowsS.nil⟩
theorem exp_ne {e : List UInt8} {ps : List Pt} (h : ExpS e ps) : ∀ c ∈ e, c ≠ 59 := by
  rintro c hc rfl
  exact (h.chars 59 hc).2.2.1 rfl
theorem u8_59 {c : UInt8} (h : (c.toNat : Int) = 59) : c = 59 := UInt8.toNat_inj.1 (by simp; omega)
theorem RowSt.no {l l1 l' : List UInt8} {rows : List (List UInt8)} {pss : List (List Pt)} {ps : List Pt} (h : RowSt l l1 rows pss) (he : Exp l1 false l' ps) (rows' : List (List UInt8)) (pss' : List (List Pt)) : RowEnd l false l' rows' pss' := by
  obtain ⟨x, rfl, h1, h2, h3⟩ := h.ex
  obtain ⟨y, rfl, g1, g2⟩ := he
  refine ⟨(fun h0 => by cases h0), fun _ => ⟨x ++ y, by simp, fun i => ?_⟩⟩
  rw [h1, g2 rfl 0 0 _ (by omega)]; simp; omega
theorem RowSt.semi {l l1 r : List UInt8} {rows : List (List UInt8)} {pss : List (List Pt)} {ps : List Pt} {c : UInt8} (h : RowSt l l1 rows pss) (he : Exp l1 true (c :: r) ps) (hc : (c.toNat : Int) = 59) : ∃ e, RowSt l r (rows ++ [e]) (pss ++ [ps]) := by
  obtain ⟨x, rfl, h1, h2, h3⟩ := h.ex
  obtain ⟨y, rfl, g1, g2⟩ := he
  obtain ⟨hp, hs, _⟩ := g1 rfl
  refine ⟨bare y, ⟨x ++ y ++ [c], by simp, fun i => ?_, fun q => ?_, ?_⟩, h.rs.snoc hs⟩
  · rw [h1, hp 0 0 _ (by omega), plc_row hc]
    congr 1
    simp; omega
  · simp only [bare_append, u8_59 hc, List.append_assoc]
    rw [show bare [59] = [59] from rfl, h2, List.cons_append, List.nil_append, split_cons 59 _ q (exp_ne hs)]
    rfl
  · intro k hk
    simp only [bare_append, u8_59 hc, List.mem_append] at hk
    rcases hk with (hk | hk) | hk
    · exact h3 k hk
    · exact (hs.chars k hk).2.2.2
    · rw [show bare [59] = [59] from rfl] at hk
      simp at hk; subst hk; decide
theorem RowSt.fin_no {l l1 l' : List UInt8} {rows : List (List UInt8)} {pss : List (List Pt)} {ps : List Pt} (h : RowSt l l1 rows pss) (he : Exp l1 true l' ps) (h59 : ¬ hd l' = 59) (hn : l' ≠ []) (rows' : List (List UInt8)) (pss' : List (List Pt)) : RowEnd l false l' rows' pss' := by
  obtain ⟨x, rfl, h1, h2, h3⟩ := h.ex
  obtain ⟨y, rfl, g1, g2⟩ := he
  obtain ⟨hp, hs, hh⟩ := g1 rfl
  refine ⟨(fun h0 => by cases h0), fun _ => ⟨x ++ y, by simp, fun i => ?_⟩⟩
  rw [h1, hp 0 0 _ (by omega), plc_fail0 l' hn hh.1 hh.2 h59]; simp; omega
theorem RowSt.fin_yes {l l1 : List UInt8} {rows : List (List UInt8)} {pss : List (List Pt)} {ps : List Pt} (h : RowSt l l1 rows pss) (he : Exp l1 true [] ps) : ∃ e, RowEnd l true [] (rows ++ [e]) (pss ++ [ps]) := by
  obtain ⟨x, rfl, h1, h2, h3⟩ := h.ex
  obtain ⟨y, rfl, g1, g2⟩ := he
  obtain ⟨hp, hs, hh⟩ := g1 rfl
  refine ⟨bare y, fun _ => ⟨fun i => ?_, ?_, ?_, h.rs.snoc hs⟩, (fun h0 => by cases h0)⟩
  · rw [h1, hp 0 0 _ (by omega)]; rfl
  · simp only [List.append_nil, bare_append]
    rw [h2, split_one 59 _ (exp_ne hs)]
  · intro k hk
    simp only [List.append_nil, bare_append, List.mem_append] at hk
    rcases hk with hk | hk
    · exact h3 k hk
    · exact (hs.chars k hk).2.2.2

end Db
