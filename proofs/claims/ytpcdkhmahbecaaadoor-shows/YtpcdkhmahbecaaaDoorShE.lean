/- Show: the pile of shown pieces in the heap. -/
import Derived.Test.YtpcdkhmahbecaaaDoorShD
import Derived.Test.YtpcdkhmahbecaaaDoorChC
namespace Go.Proofs.YtpcdkhmahbecaaaDoor
open Go.RowKit Db

abbrev Sw := ByteArray × Nat
def cellsS (q : List Sw) : List Value := q.flatMap fun p => [.string p.1, .int .i64 (p.2 : Int)]
theorem cellsS_append (p q : List Sw) : cellsS (p ++ q) = cellsS p ++ cellsS q := by simp [cellsS]
theorem cellsS_length (p : List Sw) : (cellsS p).length = p.length * 2 := by
  induction p with
  | nil => rfl
  | cons x t ih => show (_ :: _ :: cellsS t).length = _; simp [ih]; omega
def pcs (q : List Sw) : List Pc := (q.map fun p => (L p.1, p.2)).reverse
theorem pcs_snoc (q : List Sw) (x : Sw) : pcs (q ++ [x]) = (L x.1, x.2) :: pcs q := by simp [pcs]
theorem pcs_snoc2 (q : List Sw) (x y : Sw) : pcs (q ++ [x, y]) = (L y.1, y.2) :: (L x.1, x.2) :: pcs q := by simp [pcs]
def szs (q : List Sw) : Nat := (q.map fun p => p.1.size).sum
theorem szs_snoc (q : List Sw) (x : Sw) : szs (q ++ [x]) = szs q + x.1.size := by simp [szs]
theorem szs_snoc2 (q : List Sw) (x y : Sw) : szs (q ++ [x, y]) = szs q + x.1.size + y.1.size := by simp [szs]; omega

theorem info_shown : (Tryd.prog.info? 118).map (fun i => (i.zero, i.size, i.bytes)) = some (some (.agg #[.string ⟨#[]⟩, .int .i64 0]), 2, 24) := by kernel_rfl

/-- The uppermost of a pile is written over. -/
theorem own_last {w : World} {B g cap : Nat} {e : TypeId} {q : List Sw} {x : Sw} (h : w.ownsRow B e 2 (.slice (some ⟨g, 0, none⟩) (q.length + 1) cap) (q.length + 1) (cellsS (q ++ [x]))) (u : ByteArray) (r : Nat) :
    ((w.setCell ⟨g, q.length * 2, none⟩ (.string u)).setCell ⟨g, q.length * 2 + 1, none⟩ (.int .i64 (r : Int))).ownsRow B e 2 (.slice (some ⟨g, 0, none⟩) (q.length + 1) cap) (q.length + 1) (cellsS (q ++ [(u, r)])) := by
  obtain ⟨_, h2⟩ := h
  rcases h2 with ⟨h0, _⟩ | ⟨g', cap', cur, hv, hg, hh, hn, hcap, hsz, htake⟩
  · cases h0
  · cases hv
    refine ⟨by rw [cellsS_length]; simp, .inr ⟨g, cap, (cur.setIfInBounds (q.length * 2) (.string u)).setIfInBounds (q.length * 2 + 1) (.int .i64 (r : Int)), rfl, hg, ?_, hn, hcap, by simpa using hsz, ?_⟩⟩
    · exact Blk.set (Blk.set hh (q.length * 2) (.string u)) (q.length * 2 + 1) (.int .i64 (r : Int))
    · rw [Array.toList_setIfInBounds, Array.toList_setIfInBounds]
      have h1 : (cur.toList.take ((q.length + 1) * 2)).take (q.length * 2) = cellsS q := by
        rw [htake, cellsS_append, List.take_append_of_le_length (by rw [cellsS_length]; omega), List.take_of_length_le (by rw [cellsS_length]; omega)]
      rw [List.take_take, show min (q.length * 2) ((q.length + 1) * 2) = q.length * 2 by omega] at h1
      have hl : q.length * 2 + 2 ≤ cur.toList.length := by
        have := congrArg List.length htake
        rw [cellsS_length] at this
        simp at this
        simp
        omega
      rw [show (q.length + 1) * 2 = q.length * 2 + 1 + 1 by omega, List.take_succ_eq_append_getElem (by simp at hl ⊢; omega), List.take_succ_eq_append_getElem (by simp at hl ⊢; omega)]
      rw [List.take_set_of_le (by omega), List.take_set_of_le (by omega), h1, cellsS_append]
      simp [cellsS]
/-- A pile gives up its uppermost. -/
theorem own_less {w : World} {B g cap : Nat} {e : TypeId} {q : List Sw} {x y : Sw} (h : w.ownsRow B e 2 (.slice (some ⟨g, 0, none⟩) (q.length + 2) cap) (q.length + 2) (cellsS (q ++ [x, y]))) :
    w.ownsRow B e 2 (.slice (some ⟨g, 0, none⟩) (q.length + 1) cap) (q.length + 1) (cellsS (q ++ [x])) := by
  obtain ⟨_, h2⟩ := h
  rcases h2 with ⟨h0, _⟩ | ⟨g', cap', cur, hv, hg, hh, hn, hcap, hsz, htake⟩
  · cases h0
  · cases hv
    refine ⟨by rw [cellsS_length]; simp, .inr ⟨g, cap, cur, rfl, hg, hh, by omega, hcap, hsz, ?_⟩⟩
    have h1 : (cur.toList.take ((q.length + 2) * 2)).take ((q.length + 1) * 2) = cellsS (q ++ [x]) := by
      rw [htake, show q ++ [x, y] = (q ++ [x]) ++ [y] by simp, cellsS_append (q ++ [x]), List.take_append_of_le_length (by rw [cellsS_length]; simp), List.take_of_length_le (by rw [cellsS_length]; simp)]
    rwa [List.take_take, show min ((q.length + 1) * 2) ((q.length + 2) * 2) = (q.length + 1) * 2 by omega] at h1

/-- Where the loop over the parts stands. -/
structure SLoop (w wr : World) (ps : List Pt) (j : Nat) (q : List Sw) (vq : Value) : Prop where
  dp : dpt (ps.drop j) q.length = some 1
  ev : sEval (ps.drop j) (pcs q) = sEval ps []
  own : wr.ownsRow w.heap.size 118 2 vq q.length (cellsS q)
  bel : Below w.heap.size w wr
  sz : szs q ≤ 25 * j
theorem snoc1s (q : List Sw) (h : 1 ≤ q.length) : ∃ r x, q = r ++ [x] := by
  cases hq : q.reverse with
  | nil => simp at hq; subst hq; simp at h
  | cons y t => exact ⟨t.reverse, y, by have := congrArg List.reverse hq; simpa using this⟩
theorem snoc2s (q : List Sw) (h : 2 ≤ q.length) : ∃ r x y, q = r ++ [x, y] := by
  obtain ⟨r, y, rfl⟩ := snoc1s q (by omega)
  simp at h
  obtain ⟨r, x, rfl⟩ := snoc1s r (by omega)
  exact ⟨r, x, y, by simp⟩
theorem SLoop.opnd {w wr w' : World} {ps : List Pt} {j : Nat} {q : List Sw} {vq vq' : Value} {p : Pt} (h : SLoop w wr ps j q vq) (hp : ps[j]? = some p) (ho : opdB p.1 = true) {u : ByteArray} (hu : L u = wordP p) (hs : u.size ≤ 22)
    (hown : w'.ownsRow w.heap.size 118 2 vq' (q.length + 1) (cellsS q ++ [.string u, .int .i64 3])) (hb : Below w.heap.size w w') : SLoop w w' ps (j + 1) (q ++ [(u, 3)]) vq' := by
  have hd := drop_cons hp
  refine ⟨?_, ?_, by rw [cellsS_append]; simpa [cellsS] using hown, hb, ?_⟩
  · have := h.dp
    rw [hd] at this
    simp only [dpt, ho, if_true] at this
    simpa using this
  · have := h.ev
    rw [hd] at this
    simp only [sEval, ho, if_true] at this
    rw [← this, pcs_snoc, hu]
  · rw [szs_snoc]
    have := h.sz
    show _ + u.size ≤ _
    omega
/-- At a - there is one on the pile. -/
theorem SLoop.one {w wr : World} {ps : List Pt} {j : Nat} {q : List Sw} {vq : Value} {p : Pt} (h : SLoop w wr ps j q vq) (hp : ps[j]? = some p) (ho : opdB p.1 = false) (h126 : p.1 = 126) : 1 ≤ q.length := by
  have hd := drop_cons hp
  have e1 : (p.1 == 126) = true := by simp [h126]
  have := h.dp
  rw [hd] at this
  simp only [dpt, ho, e1, if_true, Bool.false_eq_true, if_false] at this
  split at this
  · rename_i hh; simpa using hh
  · cases this
theorem SLoop.neg {w wr w' : World} {ps : List Pt} {j : Nat} {q : List Sw} {x : Sw} {vq : Value} {p : Pt} (h : SLoop w wr ps j (q ++ [x]) vq) (hp : ps[j]? = some p) (ho : opdB p.1 = false) (h126 : p.1 = 126) {u : ByteArray} (hu : L u = 45 :: brk (L x.1, x.2) 3)
    (hown : w'.ownsRow w.heap.size 118 2 vq (q.length + 1) (cellsS (q ++ [(u, 3)]))) (hb : Below w.heap.size w w') : SLoop w w' ps (j + 1) (q ++ [(u, 3)]) vq := by
  have hd := drop_cons hp
  have e1 : (p.1 == 126) = true := by simp [h126]
  refine ⟨?_, ?_, by simpa using hown, hb, ?_⟩
  · have := h.dp
    rw [hd] at this
    simp only [dpt, ho, e1, if_true, Bool.false_eq_true, if_false] at this
    split at this
    · simpa using this
    · cases this
  · have := h.ev
    rw [hd, pcs_snoc] at this
    simp only [sEval, ho, e1, if_true, Bool.false_eq_true, if_false] at this
    rw [← this, pcs_snoc, hu]
  · have hs := h.sz
    rw [szs_snoc] at hs ⊢
    have := congrArg List.length hu
    rw [L_length] at this
    have h2 := brk_size (L x.1, x.2) 3
    simp only [L_length, List.length_cons] at this h2
    show _ + u.size ≤ _
    omega
/-- At an operation there are two on the pile. -/
theorem SLoop.two {w wr : World} {ps : List Pt} {j : Nat} {q : List Sw} {vq : Value} {p : Pt} (h : SLoop w wr ps j q vq) (hp : ps[j]? = some p) (ho : opdB p.1 = false) (h126 : ¬ p.1 = 126) : opB p.1 = true ∧ 2 ≤ q.length := by
  have hd := drop_cons hp
  have e1 : (p.1 == 126) = false := by simpa using h126
  have := h.dp
  rw [hd] at this
  simp only [dpt, ho, e1, Bool.false_eq_true, if_false] at this
  split at this
  · rename_i hh; simpa using hh
  · cases this
theorem SLoop.join {w wr w' : World} {ps : List Pt} {j : Nat} {q : List Sw} {x y : Sw} {vq vq' : Value} {p : Pt} (h : SLoop w wr ps j (q ++ [x, y]) vq) (hp : ps[j]? = some p) (ho : opB p.1 = true) {u : ByteArray} (hu : L u = brk (L x.1, x.2) (rkS p.1) ++ u8 p.1 :: brk (L y.1, y.2) (rkS p.1 + 1))
    (hown : w'.ownsRow w.heap.size 118 2 vq' (q.length + 1) (cellsS (q ++ [(u, rkS p.1)]))) (hb : Below w.heap.size w w') : SLoop w w' ps (j + 1) (q ++ [(u, rkS p.1)]) vq' := by
  have hd := drop_cons hp
  have ho2 := opd_op ho
  refine ⟨?_, ?_, by simpa using hown, hb, ?_⟩
  · have := h.dp
    rw [hd] at this
    simp [dpt, ho2.1, ho2.2, ho] at this
    simpa using this
  · have := h.ev
    rw [hd, pcs_snoc2] at this
    simp only [sEval, ho2.1, ho2.2, Bool.false_eq_true, if_false] at this
    rw [← this, pcs_snoc, hu]
  · have hs := h.sz
    rw [szs_snoc2] at hs
    rw [szs_snoc]
    have := congrArg List.length hu
    rw [L_length] at this
    have h1 := brk_size (L x.1, x.2) (rkS p.1)
    have h2 := brk_size (L y.1, y.2) (rkS p.1 + 1)
    simp only [L_length, List.length_cons, List.length_append] at this h1 h2
    show _ + u.size ≤ _
    omega
theorem SLoop.done {w wr : World} {ps : List Pt} {j : Nat} {q : List Sw} {vq : Value} {z : Pc} (h : SLoop w wr ps j q vq) (hj : ps.length ≤ j) (hz : ShowR ps z) : ∃ x, q = [x] ∧ L x.1 = z.1 := by
  have hd := List.drop_eq_nil_of_le hj
  have h1 := h.dp
  rw [hd] at h1
  simp [dpt] at h1
  obtain ⟨x, rfl⟩ := List.length_eq_one_iff.1 h1
  refine ⟨x, rfl, ?_⟩
  have := h.ev
  rw [hd] at this
  have h2 := hz [] []
  rw [List.append_nil] at h2
  rw [h2] at this
  simp [sEval, pcs] at this
  rw [← this]

end Go.Proofs.YtpcdkhmahbecaaaDoor
