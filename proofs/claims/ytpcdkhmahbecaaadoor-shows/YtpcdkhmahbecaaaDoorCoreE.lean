/- What Check answers to a report by its form. -/
import Derived.Test.YtpcdkhmahbecaaaDoorCoreD
namespace Db

/-- The first period that ends ahead of its beginning; -1: none. -/
def badP (i : Int) : List (Int × Int) → Int
  | [] => -1
  | p :: r => if p.2 < p.1 then i else badP (i + 1) r
/-- Names a row, by its parts, one that is not ahead of it? -/
def nameB (row : Int) (ps : List Pt) : Bool := ps.any fun p => oldB p.1 && decide (row ≤ p.2)
def badN (i : Int) : List (List Pt) → Int
  | [] => -1
  | ps :: r => if nameB i ps then i else badN (i + 1) r
/-- The kind of a row by its parts. -/
def kindP (kinds : List Int) (ps : List Pt) : Int := (kEval kinds ps []).headD 0
def badK (i : Int) (kinds : List Int) : List (List Pt) → Int
  | [] => -1
  | ps :: r => if kindP kinds ps == 0 then i else badK (i + 1) (kinds ++ [kindP kinds ps]) r
/-- The error and the place. -/
def outc (pd : List (Int × Int)) (pss : List (List Pt)) : Int × Int :=
  if 4 < pd.length ∨ 8 < pss.length then (3, 0)
  else if 0 ≤ badP 0 pd then (4, badP 0 pd)
  else if 0 ≤ badN 0 pss then (5, badN 0 pss)
  else if 0 ≤ badK 0 [] pss then (6, badK 0 [] pss)
  else (0, 0)

/-- A row as a text, and its parts. -/
structure RowOk (e : List UInt8) (ps : List Pt) : Prop where
  wf : ∃ n, Wf n e ps
  old : oldDig e
  rch : ∀ row, rch row e = nameB row ps
  len : e.length ≤ 200
  pos : ∀ p ∈ ps, 0 ≤ p.2
/-- A report by its form: its periods' digits, its rows, their parts. -/
structure Form (l : List UInt8) (pd : List (List UInt8 × List UInt8)) (rows : List (List UInt8)) (pss : List (List Pt)) : Prop where
  plc : plc 0 0 0 0 l = -1
  sht : Sht l pd rows
  len : rows.length = pss.length
  row : ∀ (i : Nat) e ps, rows[i]? = some e → pss[i]? = some ps → RowOk e ps
def pdv (pd : List (List UInt8 × List UInt8)) : List (Int × Int) := pd.map fun p => (val p.1, val p.2)

theorem badP_step {i : Nat} {pd : List (Int × Int)} {p : Int × Int} (h : pd[i]? = some p) : badP i (pd.drop i) = if p.2 < p.1 then (i : Int) else badP ((i + 1 : Nat) : Int) (pd.drop (i + 1)) := by
  obtain ⟨hi, rfl⟩ := List.getElem?_eq_some_iff.1 h
  rw [List.drop_eq_getElem_cons hi]; rfl
theorem badN_step {i : Nat} {pss : List (List Pt)} {p : List Pt} (h : pss[i]? = some p) : badN i (pss.drop i) = if nameB i p then (i : Int) else badN ((i + 1 : Nat) : Int) (pss.drop (i + 1)) := by
  obtain ⟨hi, rfl⟩ := List.getElem?_eq_some_iff.1 h
  rw [List.drop_eq_getElem_cons hi]; rfl
theorem badK_step {i : Nat} {pss : List (List Pt)} {p : List Pt} (kinds : List Int) (h : pss[i]? = some p) : badK i kinds (pss.drop i) = if kindP kinds p == 0 then (i : Int) else badK ((i + 1 : Nat) : Int) (kinds ++ [kindP kinds p]) (pss.drop (i + 1)) := by
  obtain ⟨hi, rfl⟩ := List.getElem?_eq_some_iff.1 h
  rw [List.drop_eq_getElem_cons hi]; rfl
/-- No name reaches too far: each row's names are ahead of it. -/
theorem badN_all (pss : List (List Pt)) : ∀ i : Int, 0 ≤ i → badN i pss < 0 → ∀ (j : Nat) ps, pss[j]? = some ps → nameB (i + j) ps = false := by
  induction pss with
  | nil => intro i _ _ j ps h; simp at h
  | cons x t ih =>
    intro i hi hb j ps h
    unfold badN at hb
    split at hb
    · omega
    · rename_i hx
      cases j with
      | zero => simp at h; subst h; simpa using hx
      | succ j =>
        have := ih (i + 1) (by omega) hb j ps (by simpa using h)
        rw [show i + ((j + 1 : Nat) : Int) = i + 1 + j by omega]
        exact this
theorem kindP_of {kinds : List Int} {ps : List Pt} {k : Int} (h : ∀ q st, kEval kinds (ps ++ q) st = kEval kinds q (k :: st)) : kindP kinds ps = k := by
  have := h [] []
  rw [List.append_nil] at this
  unfold kindP; rw [this]; rfl
theorem nameB_lt {row : Int} {ps : List Pt} (h : nameB row ps = false) (hp : ∀ p ∈ ps, 0 ≤ p.2) (n : Nat) (hn : row = n) : ∀ p ∈ ps, oldB p.1 = true → p.2.toNat < n := by
  intro p hp1 ho
  unfold nameB at h
  rw [List.any_eq_false] at h
  have := h p hp1
  simp [ho] at this
  have := hp p hp1
  omega

end Db
