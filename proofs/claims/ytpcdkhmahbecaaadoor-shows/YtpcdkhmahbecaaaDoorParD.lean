/- Expressions, terms and factors without blanks: each is cut as the document says. -/
import Derived.Test.YtpcdkhmahbecaaaDoorParC
namespace Db

def TrmS (e : List UInt8) (ps : List Pt) : Prop := ExpS e ps ∧ fin e 43 45 < 0
def FacS (e : List UInt8) (ps : List Pt) : Prop := ExpS e ps ∧ fin e 43 45 < 0 ∧ fin e 42 47 < 0
theorem FacS.trm {e : List UInt8} {ps : List Pt} (h : FacS e ps) : TrmS e ps := ⟨h.1, h.2.1⟩

theorem cut_join (l : List UInt8) (o : UInt8) (r : List UInt8) (hl : 0 < l.length) (h : cutAt (l ++ o :: r) = (l.length : Int)) : cut (l ++ o :: r) = ((o.toNat : Int), l, r) := by
  unfold cut
  rw [if_pos (by rw [h]; omega), h]
  simp only [Int.toNat_natCast]
  refine Prod.ext ?_ (Prod.ext ?_ ?_)
  · simp [List.getD]
  · simp
  · simp [List.drop_append]
theorem nameB_append (row : Int) (p q : List Pt) : nameB row (p ++ q) = (nameB row p || nameB row q) := by simp [nameB]
theorem nameB_op (row : Int) (o : Int) (h : oldB o = false) : nameB row [(o, 0)] = false := by simp [nameB, h]

theorem rch_cons_not {row : Int} {c : UInt8} (r : List UInt8) (h : oldB c.toNat = false) : rch row (c :: r) = rch row r := by
  simp [rch, h]
theorem oldDig_cons_not {c : UInt8} {r : List UInt8} (h : oldB c.toNat = false) (hr : oldDig r) : oldDig (c :: r) := ⟨fun hc => (by rw [h] at hc; cases hc), hr⟩

/-- An operation between two. -/
theorem join_shape {l r : List UInt8} {p q : List Pt} (hl : ExpS l p) (hr : ExpS r q) (o : UInt8) (ho : opB o.toNat = true) (hcut : cutAt (l ++ o :: r) = (l.length : Int)) :
    ExpS (l ++ o :: r) (p ++ q ++ [((o.toNat : Int), 0)]) := by
  have hc := op_c ho
  obtain ⟨n1, h1⟩ := hl.wf
  obtain ⟨n2, h2⟩ := hr.wf
  refine ⟨⟨n1 + n2 + 1, ?_⟩, ?_, ?_, ?_, ?_, ?_, ?_, ?_⟩
  · have e := cut_join l o r hl.pos hcut
    refine .inr (.inr (.inr ⟨by rw [e]; exact ho, p, q, ?_, ?_, by rw [e]⟩))
    · rw [e]; exact Wf_le (by omega) h1
    · rw [e]; exact Wf_le (by omega) h2
  · simp; omega
  · rw [lst_append l o r hr.pos]; exact hr.ends
  · intro a b p0 k at_ i rest hk hp
    exact scan_join hl hr o ho a b p0 k at_ i rest hk hp
  · intro c hcm
    rw [List.mem_append, List.mem_cons] at hcm
    rcases hcm with h | rfl | h
    · exact hl.chars c h
    · simp [opB] at ho; omega
    · exact hr.chars c h
  · intro rest hrest
    rw [List.append_assoc, List.cons_append]
    exact hl.old _ (oldDig_cons_not hc.2.2.2.2.2.2 (hr.old _ hrest))
  · intro row rest
    rw [List.append_assoc, List.cons_append, hl.rch, rch_cons_not _ hc.2.2.2.2.2.2, hr.rch, nameB_append, nameB_append, nameB_op _ _ hc.2.2.2.2.2.2]
    simp [Bool.or_assoc]
  · intro x hx
    simp at hx
    rcases hx with h | h | rfl
    · exact hl.num x h
    · exact hr.num x h
    · simp
theorem ExpS_add {l r : List UInt8} {p q : List Pt} (hl : ExpS l p) (hr : TrmS r q) (o : UInt8) (ho : (o.toNat : Int) = 43 ∨ (o.toNat : Int) = 45) : ExpS (l ++ o :: r) (p ++ q ++ [((o.toNat : Int), 0)]) := by
  have hop : opB o.toNat = true := by rcases ho with h | h <;> rw [h] <;> rfl
  refine join_shape hl hr.1 o hop ?_
  have hj := fin_join hl hr.1 o hop 43 45
  rw [if_neg (by have := hr.2; omega), if_pos (by rcases ho with h | h <;> rw [h] <;> rfl)] at hj
  unfold cutAt
  rw [hj, if_neg (by omega)]
theorem TrmS_mul {l r : List UInt8} {p q : List Pt} (hl : TrmS l p) (hr : FacS r q) (o : UInt8) (ho : (o.toNat : Int) = 42 ∨ (o.toNat : Int) = 47) : TrmS (l ++ o :: r) (p ++ q ++ [((o.toNat : Int), 0)]) := by
  have hop : opB o.toNat = true := by rcases ho with h | h <;> rw [h] <;> rfl
  have hj1 := fin_join hl.1 hr.1 o hop 43 45
  rw [if_neg (by have := hr.2.1; omega), if_neg (by rcases ho with h | h <;> rw [h] <;> decide)] at hj1
  have hj2 := fin_join hl.1 hr.1 o hop 42 47
  rw [if_neg (by have := hr.2.2; omega), if_pos (by rcases ho with h | h <;> rw [h] <;> rfl)] at hj2
  refine ⟨join_shape hl.1 hr.1 o hop ?_, by rw [hj1]; exact hl.2⟩
  unfold cutAt
  rw [hj1, hj2, if_pos hl.2]

/-- A - ahead. -/
theorem neg_fin {e : List UInt8} {ps : List Pt} (he : ExpS e ps) (c : UInt8) (hc : (c.toNat : Int) = 45) (a b p k at_ i : Int) (r : List UInt8) (hk : 0 ≤ k) (hp : stt p) :
    finGo a b p k at_ i (c :: e ++ r) = finGo a b (lst e) k (if k = 0 then upd a b e at_ (i + 1) else at_) (i + 1 + e.length) r := by
  have h1 : dep k (c.toNat : Int) = k := by rw [hc]; simp [dep]
  have h2 : hit a b p k at_ i (c.toNat : Int) = at_ := by
    unfold hit binB
    rw [hp.1]
    have : (p == 41) = false := by simpa using hp.2
    simp [this]
  rw [List.cons_append]
  simp only [finGo, h1, h2]
  rw [he.scan a b _ k at_ (i + 1) r hk (by rw [hc]; exact ⟨rfl, by decide⟩)]
theorem neg_fin0 {e : List UInt8} {ps : List Pt} (he : ExpS e ps) (c : UInt8) (hc : (c.toNat : Int) = 45) (a b : Int) : fin (c :: e) a b = if fin e a b < 0 then -1 else 1 + fin e a b := by
  have := neg_fin he c hc a b (-1) 0 (-1) 0 [] (by omega) stt_start
  have e2 : finGo a b (-1) 0 (-1) 0 (c :: e ++ []) = fin (c :: e) a b := by rw [List.append_nil]; rfl
  rw [← e2, this, if_pos rfl]
  show upd a b e (-1) (0 + 1) = _
  unfold upd
  split <;> omega
theorem FacS_neg {e : List UInt8} {ps : List Pt} (h : FacS e ps) (c : UInt8) (hc : (c.toNat : Int) = 45) : FacS (c :: e) (ps ++ [(126, 0)]) := by
  have he := h.1
  have f1 := neg_fin0 he c hc 43 45
  have f2 := neg_fin0 he c hc 42 47
  rw [if_pos h.2.1] at f1
  rw [if_pos h.2.2] at f2
  obtain ⟨n, hn⟩ := he.wf
  have hpos := he.pos
  have hold : oldB c.toNat = false := by rw [hc]; rfl
  have hcut : cut (c :: e) = (126, [], e) := by
    unfold cut
    have hca : cutAt (c :: e) = -1 := by unfold cutAt; rw [f1, if_pos (by omega), f2]
    rw [hca, if_neg (by omega), if_pos ⟨by simp; omega, by simp [hc]⟩]
    rfl
  refine ⟨⟨⟨n + 1, .inr (.inr (.inl ⟨by rw [hcut], ps, by rw [hcut]; exact hn, rfl⟩))⟩, by simp, ?_, ?_, ?_, ?_, ?_, ?_⟩, by rw [f1]; omega, by rw [f2]; omega⟩
  · rw [lst_cons c e hpos]; exact he.ends
  · intro a b p k at_ i r hk hp
    rw [neg_fin he c hc a b p k at_ i r hk hp, lst_cons c e hpos]
    have hl : i + 1 + (e.length : Int) = i + ((c :: e).length : Int) := by simp; omega
    rw [hl]
    congr 1
    by_cases h0 : k = 0
    · rw [if_pos h0, if_pos h0]
      unfold upd
      rw [neg_fin0 he c hc a b]
      have g := fin_ge e a b
      by_cases h1 : fin e a b < 0
      · rw [if_pos h1, if_pos h1, if_pos (by omega)]
      · rw [if_neg h1, if_neg h1, if_neg (by omega)]; omega
    · rw [if_neg h0, if_neg h0]
  · intro x hx
    rw [List.mem_cons] at hx
    rcases hx with rfl | hx
    · omega
    · exact he.chars x hx
  · intro r hr
    rw [List.cons_append]
    exact oldDig_cons_not hold (he.old r hr)
  · intro row r
    rw [List.cons_append, rch_cons_not _ hold, he.rch, nameB_append]
    simp [nameB, oldB]
  · intro x hx
    simp at hx
    rcases hx with hx | rfl
    · exact he.num x hx
    · simp

/-- Brackets. -/
theorem par_fin {e : List UInt8} {ps : List Pt} (he : ExpS e ps) (c d : UInt8) (hc : (c.toNat : Int) = 40) (hd : (d.toNat : Int) = 41) (a b p k at_ i : Int) (r : List UInt8) (hk : 0 ≤ k) :
    finGo a b p k at_ i ((c :: (e ++ [d])) ++ r) = finGo a b 41 k at_ (i + ((c :: (e ++ [d])).length : Int)) r := by
  have h1 : dep k (c.toNat : Int) = k + 1 := by rw [hc]; simp [dep]
  have h2 : ∀ p q j, hit a b p q at_ j (c.toNat : Int) = at_ := by intro p q j; rw [hc]; simp [hit, binB, opB]
  have h3 : dep (k + 1) (d.toNat : Int) = k := by rw [hd]; simp [dep]
  have h4 : ∀ p q j, hit a b p q at_ j (d.toNat : Int) = at_ := by intro p q j; rw [hd]; simp [hit, binB, opB]
  rw [List.cons_append, List.append_assoc]
  simp only [finGo, h1, h2]
  rw [he.scan a b _ (k + 1) at_ (i + 1) _ (by omega) (by rw [hc]; exact ⟨rfl, by decide⟩), if_neg (by omega)]
  rw [List.cons_append, List.nil_append]
  simp only [finGo, h3, h4]
  rw [hd]
  congr 1
  simp; omega
theorem FacS_par {e : List UInt8} {ps : List Pt} (he : ExpS e ps) (c d : UInt8) (hc : (c.toNat : Int) = 40) (hd : (d.toNat : Int) = 41) : FacS (c :: (e ++ [d])) ps := by
  have f : ∀ a b, fin (c :: (e ++ [d])) a b = -1 := by
    intro a b
    have := par_fin he c d hc hd a b (-1) 0 (-1) 0 [] (by omega)
    simp only [List.append_nil, finGo] at this
    exact this
  obtain ⟨n, hn⟩ := he.wf
  have hpos := he.pos
  have hold : oldB c.toNat = false := by rw [hc]; rfl
  have hold2 : oldB d.toNat = false := by rw [hd]; rfl
  have hcut : cut (c :: (e ++ [d])) = (40, [], e) := by
    unfold cut
    have hca : cutAt (c :: (e ++ [d])) = -1 := by unfold cutAt; rw [f, if_pos (by omega), f]
    rw [hca, if_neg (by omega), if_neg (by rintro ⟨_, h⟩; simp at h; omega), if_pos ⟨by simp; omega, by simp [hc]⟩]
    simp
  have hlst : lst (c :: (e ++ [d])) = 41 := by
    rw [← hd]; exact lst_snoc (c :: e) d
  refine ⟨⟨⟨n + 1, .inr (.inl ⟨by rw [hcut], by rw [hcut]; exact hn⟩)⟩, by simp, .inr hlst, ?_, ?_, ?_, ?_, he.num⟩, by rw [f]; omega, by rw [f]; omega⟩
  · intro a b p k at_ i r hk hp
    rw [par_fin he c d hc hd a b p k at_ i r hk, hlst]
    congr 1
    unfold upd
    rw [f, if_pos (show (-1 : Int) < 0 by omega)]
    split <;> rfl
  · intro x hx
    rw [List.mem_cons, List.mem_append, List.mem_singleton] at hx
    rcases hx with rfl | hx | rfl
    · omega
    · exact he.chars x hx
    · omega
  · intro r hr
    rw [List.cons_append, List.append_assoc]
    exact oldDig_cons_not hold (he.old _ (oldDig_cons_not hold2 hr))
  · intro row r
    rw [List.cons_append, List.append_assoc, rch_cons_not _ hold, he.rch, List.cons_append, rch_cons_not _ hold2]
    rfl

end Db
