/- The shape of rows without blanks: how cutting them goes over their pieces. Expressions, terms and factors without blanks: each is cut as the document says. Operands; what reading a factor, a term, an expression comes to. The reader: where it lies, what a call leaves of the rest; walks of skipBlanks, next. Walks of the reader: digits, day, period. Reports: the document's grid: the cell of an operand. Reports: the document's grid: the cell of an expression. -/
import Derived.Test.YtdchbenfccofpaaGreatDoorR08
import Derived.Test.YtdchbenfccofpaaGreatDoorR01
import Derived.Deep.LoopGhost
import Derived.Deep.RegionHeld3
import Derived.Test.YtdchbenfccofpaaGreatDoorR06
namespace Db

/-- A sign behind which nothing is an operation between two operands. -/
def stt (p : Int) : Prop := digB p = false ∧ ¬ p = 41
def lst (e : List UInt8) : Int := match e.getLast? with | some c => c.toNat | none => -1
def upd (a b : Int) (e : List UInt8) (at_ i : Int) : Int := if fin e a b < 0 then at_ else i + fin e a b

structure ExpS (e : List UInt8) (ps : List Pt) : Prop where
  wf : ∃ n, Wf n e ps
  pos : 0 < e.length
  ends : digB (lst e) = true ∨ lst e = 41
  scan : ∀ (a b p k at_ i : Int) (r : List UInt8), 0 ≤ k → stt p → finGo a b p k at_ i (e ++ r) = finGo a b (lst e) k (if k = 0 then upd a b e at_ i else at_) (i + e.length) r
  chars : ∀ c ∈ e, ¬ c.toNat = 32 ∧ ¬ c.toNat = 44 ∧ ¬ c.toNat = 59 ∧ ¬ c.toNat = 124
  old : ∀ r, oldDig r → oldDig (e ++ r)
  rch : ∀ row r, rch row (e ++ r) = (nameB row ps || rch row r)
  sel : ∀ (q : Int → Bool) r, digB (hd r) = false → strg q (e ++ r) = (selq q ps || strg q r)
  num : ∀ p ∈ ps, 0 ≤ p.2

theorem Wf_mono {n : Nat} : ∀ {e : List UInt8} {ps : List Pt}, Wf n e ps → Wf (n + 1) e ps := by
  induction n with
  | zero => intro e ps h; exact absurd h (by simp [Wf])
  | succ n ih =>
    intro e ps h
    rcases h with h | ⟨h1, h2⟩ | ⟨h1, p, h2, h3⟩ | ⟨h1, p, q, h2, h3, h4⟩
    · exact .inl h
    · exact .inr (.inl ⟨h1, ih h2⟩)
    · exact .inr (.inr (.inl ⟨h1, p, ih h2, h3⟩))
    · exact .inr (.inr (.inr ⟨h1, p, q, ih h2, ih h3, h4⟩))
theorem Wf_add {n : Nat} (m : Nat) {e : List UInt8} {ps : List Pt} (h : Wf n e ps) : Wf (n + m) e ps := by
  induction m with
  | zero => exact h
  | succ m ih => exact Wf_mono ih
theorem Wf_le {n m : Nat} (hm : n ≤ m) {e : List UInt8} {ps : List Pt} (h : Wf n e ps) : Wf m e ps := by
  obtain ⟨k, rfl⟩ := Nat.le.dest hm
  exact Wf_add k h

theorem finGo_ge (a b : Int) (l : List UInt8) : ∀ p k at_ i : Int, 0 ≤ i → -1 ≤ at_ → -1 ≤ finGo a b p k at_ i l := by
  induction l with
  | nil => intro p k at_ i _ h; exact h
  | cons c r ih =>
    intro p k at_ i hi h
    exact ih _ _ _ _ (by omega) (by unfold hit; split <;> omega)
theorem fin_ge (l : List UInt8) (a b : Int) : -1 ≤ fin l a b := finGo_ge a b l _ _ _ _ (by omega) (by omega)
theorem stt_start : stt (-1) := ⟨by decide, by decide⟩
/-- The last operation of a whole text, by its scan. -/
theorem ExpS.fin_of {e : List UInt8} {ps : List Pt} (h : ExpS e ps) (a b p at_ i : Int) (hp : stt p) : finGo a b p 0 at_ i e = upd a b e at_ i := by
  have := h.scan a b p 0 at_ i [] (by omega) hp
  simpa [finGo] using this

theorem lst_append (x : List UInt8) (c : UInt8) (y : List UInt8) (hy : 0 < y.length) : lst (x ++ c :: y) = lst y := by
  unfold lst
  rw [List.getLast?_append, List.getLast?_cons]
  cases h : y.getLast? with
  | none => simp at h; subst h; simp at hy
  | some z => simp
theorem lst_cons (c : UInt8) (y : List UInt8) (hy : 0 < y.length) : lst (c :: y) = lst y := lst_append [] c y hy
theorem lst_snoc (x : List UInt8) (c : UInt8) : lst (x ++ [c]) = c.toNat := by simp [lst]

theorem fin_join {l r : List UInt8} {p q : List Pt} (hl : ExpS l p) (hr : ExpS r q) (o : UInt8) (ho : opB o.toNat = true) (a b : Int) :
    fin (l ++ o :: r) a b = if 0 ≤ fin r a b then (l.length : Int) + 1 + fin r a b else if ((o.toNat : Int) == a || (o.toNat : Int) == b) then (l.length : Int) else fin l a b := by
  have hc := op_c ho
  have hdep : dep 0 (o.toNat : Int) = 0 := by simp [dep, hc.2.1, hc.2.2.1]
  have hbin : binB (lst l) (o.toNat : Int) = true := by
    unfold binB; rw [ho]
    rcases hl.ends with h | h <;> simp [h]
  unfold fin
  rw [hl.scan a b (-1) 0 (-1) 0 (o :: r) (by omega) stt_start]
  simp only [if_true, finGo, hdep]
  rw [hr.fin_of a b _ _ _ ⟨hc.2.2.2.2.1, hc.2.2.1⟩]
  have g := fin_ge r a b
  have g2 := fin_ge l a b
  unfold upd hit
  rw [hbin]
  have e1 : fin l a b = finGo a b (-1) 0 (-1) 0 l := rfl
  have e2 : fin r a b = finGo a b (-1) 0 (-1) 0 r := rfl
  rw [← e1, ← e2]
  by_cases h1 : fin r a b < 0
  · rw [if_pos h1, if_neg (show ¬ 0 ≤ fin r a b by omega)]
    cases h2 : ((o.toNat : Int) == a || (o.toNat : Int) == b)
    · simp only [Bool.and_false, Bool.false_eq_true, if_false]
      split <;> omega
    · simp
  · rw [if_neg h1, if_pos (show 0 ≤ fin r a b by omega)]
    omega

/-- Two expressions with an operation between them: all but how they are cut. -/
theorem scan_join {l r : List UInt8} {p q : List Pt} (hl : ExpS l p) (hr : ExpS r q) (o : UInt8) (ho : opB o.toNat = true)
    (a b p0 k at_ i : Int) (rest : List UInt8) (hk : 0 ≤ k) (hp : stt p0) :
    finGo a b p0 k at_ i ((l ++ o :: r) ++ rest) = finGo a b (lst (l ++ o :: r)) k (if k = 0 then upd a b (l ++ o :: r) at_ i else at_) (i + (l ++ o :: r).length) rest := by
  have hc := op_c ho
  have hdep : dep k (o.toNat : Int) = k := by simp [dep, hc.2.1, hc.2.2.1]
  have hbin : binB (lst l) (o.toNat : Int) = true := by
    unfold binB; rw [ho]
    rcases hl.ends with h | h <;> simp [h]
  have hj := fin_join hl hr o ho a b
  have g := fin_ge r a b
  have g2 := fin_ge l a b
  rw [List.append_assoc, hl.scan a b p0 k at_ i _ hk hp, List.cons_append]
  simp only [finGo, hdep]
  rw [hr.scan a b _ k _ _ rest hk ⟨hc.2.2.2.2.1, hc.2.2.1⟩, lst_append l o r hr.pos]
  have hlen : i + (l.length : Int) + 1 + (r.length : Int) = i + ((l ++ o :: r).length : Int) := by simp; omega
  rw [hlen]
  congr 1
  by_cases h0 : k = 0
  · subst h0
    simp only [if_true]
    unfold hit
    rw [hbin]
    unfold upd
    rw [hj]
    by_cases h1 : fin r a b < 0
    · rw [if_pos h1, if_neg (show ¬ 0 ≤ fin r a b by omega)]
      cases h2 : ((o.toNat : Int) == a || (o.toNat : Int) == b)
      · simp
      · simp; omega
    · rw [if_neg h1, if_pos (show 0 ≤ fin r a b by omega), if_neg (by omega)]
      omega
  · have hk0 : (k == 0) = false := by simpa using h0
    simp [h0, hit, hk0]

end Db
namespace Db

def TrmS (e : List UInt8) (ps : List Pt) : Prop := ExpS e ps ∧ fin e 43 45 < 0
def FacS (e : List UInt8) (ps : List Pt) : Prop := ExpS e ps ∧ fin e 43 45 < 0 ∧ fin e 42 47 < 0
theorem FacS.trm {e : List UInt8} {ps : List Pt} (h : FacS e ps) : TrmS e ps := ⟨h.1, h.2.1⟩

theorem cut_join (l : List UInt8) (o : UInt8) (r : List UInt8) (hl : 0 < l.length) (h : cutAt (l ++ o :: r) = (l.length : Int)) : cut (l ++ o :: r) = ((o.toNat : Int), l, r) := by
  unfold cut
  rw [if_pos (by rw [h]; omega), h]
  simp only [Int.toNat_natCast]
  refine Prod.ext ?_ (Prod.ext ?_ ?_)
  · simp [List.getD]
  · simp
  · simp [List.drop_append]
theorem nameB_append (row : Int) (p q : List Pt) : nameB row (p ++ q) = (nameB row p || nameB row q) := by simp [nameB]
theorem nameB_op (row : Int) (o : Int) (h : oldB o = false) : nameB row [(o, 0)] = false := by simp [nameB, h]

theorem rch_cons_not {row : Int} {c : UInt8} (r : List UInt8) (h : oldB c.toNat = false) : rch row (c :: r) = rch row r := by
  simp [rch, h]
theorem oldDig_cons_not {c : UInt8} {r : List UInt8} (h : oldB c.toNat = false) (hr : oldDig r) : oldDig (c :: r) := ⟨fun hc => (by rw [h] at hc; cases hc), hr⟩

/-- An operation between two. -/
theorem join_shape {l r : List UInt8} {p q : List Pt} (hl : ExpS l p) (hr : ExpS r q) (o : UInt8) (ho : opB o.toNat = true) (hcut : cutAt (l ++ o :: r) = (l.length : Int)) :
    ExpS (l ++ o :: r) (p ++ q ++ [((o.toNat : Int), 0)]) := by
  have hc := op_c ho
  obtain ⟨n1, h1⟩ := hl.wf
  obtain ⟨n2, h2⟩ := hr.wf
  refine ⟨⟨n1 + n2 + 1, ?_⟩, ?_, ?_, ?_, ?_, ?_, ?_, ?_, ?_⟩
  · have e := cut_join l o r hl.pos hcut
    refine .inr (.inr (.inr ⟨by rw [e]; exact ho, p, q, ?_, ?_, by rw [e]⟩))
    · rw [e]; exact Wf_le (by omega) h1
    · rw [e]; exact Wf_le (by omega) h2
  · simp; omega
  · rw [lst_append l o r hr.pos]; exact hr.ends
  · intro a b p0 k at_ i rest hk hp
    exact scan_join hl hr o ho a b p0 k at_ i rest hk hp
  · intro c hcm
    rw [List.mem_append, List.mem_cons] at hcm
    rcases hcm with h | rfl | h
    · exact hl.chars c h
    · simp [opB] at ho; omega
    · exact hr.chars c h
  · intro rest hrest
    rw [List.append_assoc, List.cons_append]
    exact hl.old _ (oldDig_cons_not hc.2.2.2.2.2.2 (hr.old _ hrest))
  · intro row rest
    rw [List.append_assoc, List.cons_append, hl.rch, rch_cons_not _ hc.2.2.2.2.2.2, hr.rch, nameB_append, nameB_append, nameB_op _ _ hc.2.2.2.2.2.2]
    simp [Bool.or_assoc]
  · intro q rest hrest
    rw [List.append_assoc, List.cons_append, hl.sel _ _ (by simp only [hd]; exact hc.2.2.2.2.1), strg_cons_not _ hc.2.2.2.2.2.1, hr.sel _ _ hrest, selq_append, selq_append, selq_op _ _ hc.2.2.2.2.2.1]
    simp [Bool.or_assoc]
  · intro x hx
    simp at hx
    rcases hx with h | h | rfl
    · exact hl.num x h
    · exact hr.num x h
    · simp
theorem ExpS_add {l r : List UInt8} {p q : List Pt} (hl : ExpS l p) (hr : TrmS r q) (o : UInt8) (ho : (o.toNat : Int) = 43 ∨ (o.toNat : Int) = 45) : ExpS (l ++ o :: r) (p ++ q ++ [((o.toNat : Int), 0)]) := by
  have hop : opB o.toNat = true := by rcases ho with h | h <;> rw [h] <;> rfl
  refine join_shape hl hr.1 o hop ?_
  have hj := fin_join hl hr.1 o hop 43 45
  rw [if_neg (by have := hr.2; omega), if_pos (by rcases ho with h | h <;> rw [h] <;> rfl)] at hj
  unfold cutAt
  rw [hj, if_neg (by omega)]
theorem TrmS_mul {l r : List UInt8} {p q : List Pt} (hl : TrmS l p) (hr : FacS r q) (o : UInt8) (ho : (o.toNat : Int) = 42 ∨ (o.toNat : Int) = 47) : TrmS (l ++ o :: r) (p ++ q ++ [((o.toNat : Int), 0)]) := by
  have hop : opB o.toNat = true := by rcases ho with h | h <;> rw [h] <;> rfl
  have hj1 := fin_join hl.1 hr.1 o hop 43 45
  rw [if_neg (by have := hr.2.1; omega), if_neg (by rcases ho with h | h <;> rw [h] <;> decide)] at hj1
  have hj2 := fin_join hl.1 hr.1 o hop 42 47
  rw [if_neg (by have := hr.2.2; omega), if_pos (by rcases ho with h | h <;> rw [h] <;> rfl)] at hj2
  refine ⟨join_shape hl.1 hr.1 o hop ?_, by rw [hj1]; exact hl.2⟩
  unfold cutAt
  rw [hj1, hj2, if_pos hl.2]

/-- A - ahead. -/
theorem neg_fin {e : List UInt8} {ps : List Pt} (he : ExpS e ps) (c : UInt8) (hc : (c.toNat : Int) = 45) (a b p k at_ i : Int) (r : List UInt8) (hk : 0 ≤ k) (hp : stt p) :
    finGo a b p k at_ i (c :: e ++ r) = finGo a b (lst e) k (if k = 0 then upd a b e at_ (i + 1) else at_) (i + 1 + e.length) r := by
  have h1 : dep k (c.toNat : Int) = k := by rw [hc]; simp [dep]
  have h2 : hit a b p k at_ i (c.toNat : Int) = at_ := by
    unfold hit binB
    rw [hp.1]
    have : (p == 41) = false := by simpa using hp.2
    simp [this]
  rw [List.cons_append]
  simp only [finGo, h1, h2]
  rw [he.scan a b _ k at_ (i + 1) r hk (by rw [hc]; exact ⟨rfl, by decide⟩)]
theorem neg_fin0 {e : List UInt8} {ps : List Pt} (he : ExpS e ps) (c : UInt8) (hc : (c.toNat : Int) = 45) (a b : Int) : fin (c :: e) a b = if fin e a b < 0 then -1 else 1 + fin e a b := by
  have := neg_fin he c hc a b (-1) 0 (-1) 0 [] (by omega) stt_start
  have e2 : finGo a b (-1) 0 (-1) 0 (c :: e ++ []) = fin (c :: e) a b := by rw [List.append_nil]; rfl
  rw [← e2, this, if_pos rfl]
  show upd a b e (-1) (0 + 1) = _
  unfold upd
  split <;> omega
theorem FacS_neg {e : List UInt8} {ps : List Pt} (h : FacS e ps) (c : UInt8) (hc : (c.toNat : Int) = 45) : FacS (c :: e) (ps ++ [(126, 0)]) := by
  have he := h.1
  have f1 := neg_fin0 he c hc 43 45
  have f2 := neg_fin0 he c hc 42 47
  rw [if_pos h.2.1] at f1
  rw [if_pos h.2.2] at f2
  obtain ⟨n, hn⟩ := he.wf
  have hpos := he.pos
  have hold : oldB c.toNat = false := by rw [hc]; rfl
  have hcut : cut (c :: e) = (126, [], e) := by
    unfold cut
    have hca : cutAt (c :: e) = -1 := by unfold cutAt; rw [f1, if_pos (by omega), f2]
    rw [hca, if_neg (by omega), if_pos ⟨by simp; omega, by simp [hc]⟩]
    rfl
  refine ⟨⟨⟨n + 1, .inr (.inr (.inl ⟨by rw [hcut], ps, by rw [hcut]; exact hn, rfl⟩))⟩, by simp, ?_, ?_, ?_, ?_, ?_, ?_, ?_⟩, by rw [f1]; omega, by rw [f2]; omega⟩
  · rw [lst_cons c e hpos]; exact he.ends
  · intro a b p k at_ i r hk hp
    rw [neg_fin he c hc a b p k at_ i r hk hp, lst_cons c e hpos]
    have hl : i + 1 + (e.length : Int) = i + ((c :: e).length : Int) := by simp; omega
    rw [hl]
    congr 1
    by_cases h0 : k = 0
    · rw [if_pos h0, if_pos h0]
      unfold upd
      rw [neg_fin0 he c hc a b]
      have g := fin_ge e a b
      by_cases h1 : fin e a b < 0
      · rw [if_pos h1, if_pos h1, if_pos (by omega)]
      · rw [if_neg h1, if_neg h1, if_neg (by omega)]; omega
    · rw [if_neg h0, if_neg h0]
  · intro x hx
    rw [List.mem_cons] at hx
    rcases hx with rfl | hx
    · omega
    · exact he.chars x hx
  · intro r hr
    rw [List.cons_append]
    exact oldDig_cons_not hold (he.old r hr)
  · intro row r
    rw [List.cons_append, rch_cons_not _ hold, he.rch, nameB_append]
    simp [nameB, oldB]
  · intro q r hr
    rw [List.cons_append, strg_cons_not _ (by rw [hc]; rfl), he.sel _ _ hr, selq_append]
    simp [selq, selB]
  · intro x hx
    simp at hx
    rcases hx with hx | rfl
    · exact he.num x hx
    · simp

/-- Brackets. -/
theorem par_fin {e : List UInt8} {ps : List Pt} (he : ExpS e ps) (c d : UInt8) (hc : (c.toNat : Int) = 40) (hd : (d.toNat : Int) = 41) (a b p k at_ i : Int) (r : List UInt8) (hk : 0 ≤ k) :
    finGo a b p k at_ i ((c :: (e ++ [d])) ++ r) = finGo a b 41 k at_ (i + ((c :: (e ++ [d])).length : Int)) r := by
  have h1 : dep k (c.toNat : Int) = k + 1 := by rw [hc]; simp [dep]
  have h2 : ∀ p q j, hit a b p q at_ j (c.toNat : Int) = at_ := by intro p q j; rw [hc]; simp [hit, binB, opB]
  have h3 : dep (k + 1) (d.toNat : Int) = k := by rw [hd]; simp [dep]
  have h4 : ∀ p q j, hit a b p q at_ j (d.toNat : Int) = at_ := by intro p q j; rw [hd]; simp [hit, binB, opB]
  rw [List.cons_append, List.append_assoc]
  simp only [finGo, h1, h2]
  rw [he.scan a b _ (k + 1) at_ (i + 1) _ (by omega) (by rw [hc]; exact ⟨rfl, by decide⟩), if_neg (by omega)]
  rw [List.cons_append, List.nil_append]
  simp only [finGo, h3, h4]
  rw [hd]
  congr 1
  simp; omega
theorem FacS_par {e : List UInt8} {ps : List Pt} (he : ExpS e ps) (c d : UInt8) (hc : (c.toNat : Int) = 40) (hd : (d.toNat : Int) = 41) : FacS (c :: (e ++ [d])) ps := by
  have f : ∀ a b, fin (c :: (e ++ [d])) a b = -1 := by
    intro a b
    have := par_fin he c d hc hd a b (-1) 0 (-1) 0 [] (by omega)
    simp only [List.append_nil, finGo] at this
    exact this
  obtain ⟨n, hn⟩ := he.wf
  have hpos := he.pos
  have hold : oldB c.toNat = false := by rw [hc]; rfl
  have hold2 : oldB d.toNat = false := by rw [hd]; rfl
  have hcut : cut (c :: (e ++ [d])) = (40, [], e) := by
    unfold cut
    have hca : cutAt (c :: (e ++ [d])) = -1 := by unfold cutAt; rw [f, if_pos (by omega), f]
    rw [hca, if_neg (by omega), if_neg (by rintro ⟨_, h⟩; simp at h; omega), if_pos ⟨by simp; omega, by simp [hc]⟩]
    simp
  have hlst : lst (c :: (e ++ [d])) = 41 := by
    rw [← hd]; exact lst_snoc (c :: e) d
  refine ⟨⟨⟨n + 1, .inr (.inl ⟨by rw [hcut], by rw [hcut]; exact hn⟩)⟩, by simp, .inr hlst, ?_, ?_, ?_, ?_, ?_, he.num⟩, by rw [f]; omega, by rw [f]; omega⟩
  · intro a b p k at_ i r hk hp
    rw [par_fin he c d hc hd a b p k at_ i r hk, hlst]
    congr 1
    unfold upd
    rw [f, if_pos (show (-1 : Int) < 0 by omega)]
    split <;> rfl
  · intro x hx
    rw [List.mem_cons, List.mem_append, List.mem_singleton] at hx
    rcases hx with rfl | hx | rfl
    · omega
    · exact he.chars x hx
    · omega
  · intro r hr
    rw [List.cons_append, List.append_assoc]
    exact oldDig_cons_not hold (he.old _ (oldDig_cons_not hold2 hr))
  · intro row r
    rw [List.cons_append, List.append_assoc, rch_cons_not _ hold, he.rch, List.cons_append, rch_cons_not _ hold2]
    rfl
  · intro q r hr
    rw [List.cons_append, List.append_assoc, strg_cons_not _ (by rw [hc]; rfl), he.sel _ _ (by show digB (d.toNat : Int) = false; rw [hd]; rfl), List.cons_append, strg_cons_not _ (by rw [hd]; rfl)]
    rfl

end Db
namespace Db

theorem valGo_pos (l : List UInt8) (h : ∀ c ∈ l, digB c.toNat = true) : ∀ n : Int, 0 ≤ n → 0 ≤ valGo n l := by
  induction l with
  | nil => intro n hn; exact hn
  | cons c r ih =>
    intro n hn
    have := h c (by simp)
    simp [digB] at this
    exact ih (fun x hx => h x (by simp [hx])) _ (by omega)
theorem val_pos (l : List UInt8) (h : ∀ c ∈ l, digB c.toNat = true) : 0 ≤ val l := valGo_pos l h 0 (by omega)

/-- A text without operations and brackets. -/
def Flat (e : List UInt8) : Prop := ∀ c ∈ e, opB c.toNat = false ∧ ¬ (c.toNat : Int) = 40 ∧ ¬ (c.toNat : Int) = 41
theorem flat_fin (a b : Int) (e : List UInt8) (h : Flat e) : ∀ (p k at_ i : Int) (r : List UInt8), finGo a b p k at_ i (e ++ r) = finGo a b (if e = [] then p else lst e) k at_ (i + e.length) r := by
  induction e with
  | nil => intro p k at_ i r; simp
  | cons c t ih =>
    intro p k at_ i r
    have hc := h c (by simp)
    have h1 : dep k (c.toNat : Int) = k := by simp [dep, hc.2.1, hc.2.2]
    have h2 : hit a b p k at_ i (c.toNat : Int) = at_ := by simp [hit, binB, hc.1]
    rw [List.cons_append]
    simp only [finGo, h1, h2]
    rw [ih (fun x hx => h x (by simp [hx]))]
    have hl : i + 1 + (t.length : Int) = i + ((c :: t).length : Int) := by simp; omega
    rw [hl]
    congr 1
    cases t with
    | nil => simp [lst]
    | cons x y => simp [lst]
theorem dig_flat {c : Int} (h : digB c = true) : opB c = false ∧ ¬ c = 40 ∧ ¬ c = 41 := by simp [digB] at h; simp [opB]; omega
theorem sel_flat {c : Int} (h : selB c = true) : opB c = false ∧ ¬ c = 40 ∧ ¬ c = 41 := by simp [selB] at h; rcases h with (rfl | rfl) | rfl <;> simp [opB]
theorem old_flat {c : Int} (h : oldB c = true) : opB c = false ∧ ¬ c = 40 ∧ ¬ c = 41 := by simp [oldB] at h; rcases h with rfl | rfl <;> simp [opB]
theorem dig_old {c : Int} (h : digB c = true) : oldB c = false := by simp [digB] at h; simp [oldB]; omega
theorem sel_old {c : Int} (h : selB c = true) : oldB c = false := by simp [selB] at h; rcases h with (rfl | rfl) | rfl <;> simp [oldB]
theorem digs_old (ds : List UInt8) (h : ∀ c ∈ ds, digB c.toNat = true) (r : List UInt8) (hr : oldDig r) : oldDig (ds ++ r) := by
  induction ds with
  | nil => exact hr
  | cons c t ih => exact oldDig_cons_not (dig_old (h c (by simp))) (ih (fun x hx => h x (by simp [hx])))
theorem digs_rch (row : Int) (ds : List UInt8) (h : ∀ c ∈ ds, digB c.toNat = true) (r : List UInt8) : rch row (ds ++ r) = rch row r := by
  induction ds with
  | nil => rfl
  | cons c t ih => rw [List.cons_append, rch_cons_not _ (dig_old (h c (by simp))), ih (fun x hx => h x (by simp [hx]))]
theorem dig_sel {c : Int} (h : digB c = true) : selB c = false := by simp [digB] at h; simp [selB]; omega
theorem digs_strg (q : Int → Bool) (ds : List UInt8) (h : ∀ c ∈ ds, digB c.toNat = true) (r : List UInt8) : strg q (ds ++ r) = strg q r := by
  induction ds with
  | nil => rfl
  | cons c t ih => rw [List.cons_append, strg_cons_not _ (dig_sel (h c (by simp))), ih (fun x hx => h x (by simp [hx]))]
theorem dg2_all (ds : List UInt8) (h : ∀ c ∈ ds, digB c.toNat = true) (h1 : 1 ≤ ds.length) (h2 : ds.length ≤ 2) (r : List UInt8) (hr : digB (hd r) = false) : dg2 (ds ++ r) = ds := by
  match ds, h1, h2 with
  | [x], _, _ =>
    have hx := h x (by simp)
    unfold dg2
    cases r with
    | nil => simp [hx]
    | cons y t => simp only [hd] at hr; simp [hx, hr]
  | [x, y], _, _ =>
    have hx := h x (by simp)
    have hy := h y (by simp)
    unfold dg2
    simp [hx, hy]
  | _ :: _ :: _ :: _, _, h2 => simp at h2
theorem lst_mem (e : List UInt8) (h : 0 < e.length) : ∃ c ∈ e, lst e = c.toNat := by
  cases hl : e.getLast? with
  | none => simp at hl; subst hl; simp at h
  | some c => exact ⟨c, List.mem_of_getLast? hl, by simp [lst, hl]⟩

/-- An operand is a factor. -/
theorem opnd_shape {e : List UInt8} {ps : List Pt} (h : Opnd e ps) : FacS e ps := by
  have hpos : 0 < e.length := by
    rcases h with ⟨h1, _⟩ | ⟨c, ds, rfl, _⟩
    · omega
    · simp
  have hflat : Flat e := by
    rcases h with ⟨_, _, hd, _⟩ | ⟨c, ds, rfl, _, hd, hs, _⟩
    · exact fun c hc => dig_flat (hd c hc)
    · intro x hx
      rw [List.mem_cons] at hx
      rcases hx with rfl | hx
      · rcases hs with ⟨hs, _⟩ | ⟨hs, _⟩
        · exact sel_flat hs
        · exact old_flat hs
      · exact dig_flat (hd x hx)
  have hfin : ∀ a b, fin e a b = -1 := by
    intro a b
    have := flat_fin a b e hflat (-1) 0 (-1) 0 []
    rw [List.append_nil] at this
    exact this
  have hlast : digB (lst e) = true := by
    rcases h with ⟨h1, _, hd, _⟩ | ⟨c, ds, rfl, h1, hd, hs, _⟩
    · obtain ⟨x, hx, he⟩ := lst_mem e hpos
      rw [he]; exact hd x hx
    · rw [lst_cons c ds (by omega)]
      obtain ⟨x, hx, he⟩ := lst_mem ds (by omega)
      rw [he]; exact hd x hx
  have hhead : ∀ c : Int, ((e.getD 0 0).toNat : Int) = c → ¬ c = 45 ∧ ¬ c = 40 := by
    intro c hc
    match e, hpos, hflat with
    | x :: t, _, hfl =>
      have hx := hfl x (by simp)
      simp at hc
      subst hc
      exact ⟨by intro h; rw [h] at hx; simp [opB] at hx, hx.2.1⟩
  have hcut : cut e = (0, [], e) := by
    unfold cut
    have hca : cutAt e = -1 := by unfold cutAt; rw [hfin, if_pos (by omega), hfin]
    rw [hca, if_neg (by omega), if_neg (fun hx => (hhead _ rfl).1 hx.2), if_neg (fun hx => (hhead _ rfl).2 hx.2)]
  refine ⟨⟨⟨1, .inl ⟨hcut, h⟩⟩, hpos, .inl hlast, ?_, ?_, ?_, ?_, ?_, ?_⟩, by rw [hfin]; omega, by rw [hfin]; omega⟩
  · intro a b p k at_ i r hk hp
    rw [flat_fin a b e hflat]
    have : ¬ e = [] := by intro h0; subst h0; simp at hpos
    rw [if_neg this]
    congr 1
    unfold upd
    rw [hfin, if_pos (show (-1 : Int) < 0 by omega)]
    split <;> rfl
  · intro c hc
    rcases h with ⟨_, _, hd, _⟩ | ⟨x, ds, rfl, _, hd, hs, _⟩
    · have := hd c hc; simp [digB] at this; omega
    · rw [List.mem_cons] at hc
      rcases hc with rfl | hc
      · rcases hs with ⟨hs, _⟩ | ⟨hs, _⟩
        · simp [selB] at hs; omega
        · simp [oldB] at hs; omega
      · have := hd c hc; simp [digB] at this; omega
  · intro r hr
    rcases h with ⟨_, _, hd, _⟩ | ⟨x, ds, rfl, h1, hd, hs, _⟩
    · exact digs_old e hd r hr
    · refine ⟨fun _ => ?_, digs_old ds hd r hr⟩
      match ds, h1, hd with
      | y :: t, _, hd => exact hd y (by simp)
  · intro row r
    rcases h with ⟨_, _, hd, rfl⟩ | ⟨x, ds, rfl, h1, hd, hs, rfl⟩
    · rw [digs_rch row e hd r]; simp [nameB, oldB]
    · rcases hs with ⟨hs, _⟩ | ⟨hs, hl⟩
      · rw [List.cons_append, rch_cons_not _ (sel_old hs), digs_rch row ds hd r]
        simp [nameB, sel_old hs]
      · obtain ⟨y, rfl⟩ := List.length_eq_one_iff.1 hl
        rw [List.cons_append, List.cons_append, List.nil_append]
        show ((oldB x.toNat && decide (row ≤ (y.toNat : Int) - 48)) || rch row (y :: r)) = _
        rw [rch_cons_not _ (dig_old (hd y (by simp)))]
        simp [nameB, val, valGo, hs]
  · intro q r hr
    rcases h with ⟨_, _, hd, rfl⟩ | ⟨x, ds, rfl, h1, hd, hs, rfl⟩
    · rw [digs_strg q e hd r]; simp [selq, selB]
    · rcases hs with ⟨hs, hl⟩ | ⟨hs, hl⟩
      · rw [List.cons_append]
        show ((selB x.toNat && q (val (dg2 (ds ++ r)))) || strg q (ds ++ r)) = _
        rw [digs_strg q ds hd r, dg2_all ds hd h1 hl r hr]
        simp [selq, hs]
      · have hns : selB (x.toNat : Int) = false := (old_c hs).2.2.2.2
        rw [List.cons_append, strg_cons_not _ hns, digs_strg q ds hd r]
        simp [selq, hns]
  · intro p hp
    rcases h with ⟨_, _, hd, rfl⟩ | ⟨x, ds, rfl, h1, hd, hs, rfl⟩
    · simp at hp; subst hp; exact val_pos e hd
    · simp at hp; subst hp; exact val_pos ds hd

/-- Reading a factor (a term, an expression) off l: l' is left, ps are its parts; or it stops ahead of l'. S: the shape of what was read; H: what is known of what is left. -/
def Got (S : List UInt8 → List Pt → Prop) (H : List UInt8 → Prop) (l : List UInt8) (ok : Bool) (l' : List UInt8) (ps : List Pt) : Prop :=
  ∃ x, l = x ++ l' ∧ (ok = true → (∀ d k i : Int, 0 ≤ k → plc 6 d k i l = plc 11 0 k (i + x.length) l') ∧ S (bare x) ps ∧ H l') ∧ (ok = false → ∀ d k i : Int, 0 ≤ k → plc 6 d k i l = i + x.length)
def Fac := Got FacS (fun _ => True)
/-- Neither a blank nor one of these operations is left. -/
def Trm := Got TrmS (fun l => ¬ hd l = 32 ∧ ¬ hd l = 42 ∧ ¬ hd l = 47)
def Exp := Got ExpS (fun l => ¬ hd l = 32 ∧ opB (hd l) = false)

theorem fac_blanks {x l l' : List UInt8} {ok : Bool} {ps : List Pt} {S : List UInt8 → List Pt → Prop} {H : List UInt8 → Prop} (hx : Blanks x) (h : Got S H l ok l' ps) : Got S H (x ++ l) ok l' ps := by
  obtain ⟨y, rfl, h1, h2⟩ := h
  refine ⟨x ++ y, by simp, fun ho => ⟨fun d k i hk => ?_, ?_, (h1 ho).2.2⟩, fun ho d k i hk => ?_⟩
  · rw [plc_skip 6 (by simp) x hx, (h1 ho).1 d k _ hk]
    congr 1
    simp; omega
  · rw [bare_append, bare_blanks hx]; exact (h1 ho).2.1
  · rw [plc_skip 6 (by simp) x hx, h2 ho d k _ hk]
    simp; omega
theorem fac_opnd {e l' : List UInt8} {ps : List Pt} (h : Opnd e ps) (he : ∀ d k i : Int, plc 6 d k i (e ++ l') = plc 11 0 k (i + e.length) l') : Fac (e ++ l') true l' ps := by
  have hs := opnd_shape h
  refine ⟨e, rfl, fun _ => ⟨fun d k i _ => he d k i, ?_, trivial⟩, fun h0 => by cases h0⟩
  have : bare e = e := by
    unfold bare; rw [List.filter_eq_self]; intro c hc
    have := (hs.1.chars c hc).1
    simpa using this
  rw [this]; exact hs
theorem bare_cons {c : UInt8} (h : ¬ c.toNat = 32) (l : List UInt8) : bare (c :: l) = c :: bare l := by
  rw [show c :: l = [c] ++ l from rfl, bare_append, bare_other h]; rfl
theorem fac_neg {c : UInt8} (hc : (c.toNat : Int) = 45) {l l' : List UInt8} {ok : Bool} {ps : List Pt} (h : Fac l ok l' ps) : Fac (c :: l) ok l' (ps ++ [(126, 0)]) := by
  obtain ⟨y, rfl, h1, h2⟩ := h
  refine ⟨c :: y, rfl, fun ho => ⟨fun d k i hk => ?_, ?_, trivial⟩, fun ho d k i hk => ?_⟩
  · rw [plc_neg hc, (h1 ho).1 d k _ hk]
    congr 1
    simp; omega
  · rw [bare_cons (by omega)]; exact FacS_neg (h1 ho).2.1 c hc
  · rw [plc_neg hc, h2 ho d k _ hk]
    simp; omega
/-- A bracket that is opened, an expression: it fails there. -/
theorem fac_par_no {c : UInt8} (hc : (c.toNat : Int) = 40) {l l' : List UInt8} {ps ps' : List Pt} (h : Exp l false l' ps) : Fac (c :: l) false l' ps' := by
  obtain ⟨y, rfl, h1, h2⟩ := h
  refine ⟨c :: y, rfl, (fun h0 => by cases h0), fun _ d k i hk => ?_⟩
  rw [plc_par hc, h2 rfl d (k + 1) _ (by omega)]
  simp; omega
theorem fac_par_open {c : UInt8} (hc : (c.toNat : Int) = 40) {l l' : List UInt8} {ps ps' : List Pt} (h : Exp l true l' ps) (h41 : ¬ hd l' = 41) : Fac (c :: l) false l' ps' := by
  obtain ⟨y, rfl, h1, h2⟩ := h
  have h3 := (h1 rfl).2.2
  refine ⟨c :: y, rfl, (fun h0 => by cases h0), fun _ d k i hk => ?_⟩
  rw [plc_par hc, (h1 rfl).1 d (k + 1) _ (by omega), plc_fail11 l' h3.1 h3.2 h41 _ _ _ hk]
  simp; omega
theorem fac_par_yes {c e : UInt8} (hc : (c.toNat : Int) = 40) (he : (e.toNat : Int) = 41) {l l' : List UInt8} {ps : List Pt} (h : Exp l true (e :: l') ps) : Fac (c :: l) true l' ps := by
  obtain ⟨y, rfl, h1, h2⟩ := h
  refine ⟨c :: (y ++ [e]), by simp, fun _ => ⟨fun d k i hk => ?_, ?_, trivial⟩, fun h0 => by cases h0⟩
  · rw [plc_par hc, (h1 rfl).1 d (k + 1) _ (by omega), plc_shut he _ _ _ hk]
    congr 1
    simp; omega
  · rw [bare_cons (by omega), bare_append, bare_other (by omega)]; exact FacS_par (h1 rfl).2.1 c e hc he
/-- From a factor to a term: blanks behind it are passed over. -/
theorem trm_fac {l x l' : List UInt8} {ps : List Pt} (h : Fac l true (x ++ l') ps) (hx : Blanks x) : Got TrmS (fun _ => True) l true l' ps := by
  obtain ⟨y, rfl, h1, h2⟩ := h
  refine ⟨y ++ x, by simp, fun _ => ⟨fun d k i hk => ?_, ?_, trivial⟩, fun h0 => by cases h0⟩
  · rw [(h1 rfl).1 d k _ hk, plc_skip 11 (by simp) x hx]
    congr 1
    simp; omega
  · rw [bare_append, bare_blanks hx, List.append_nil]; exact (h1 rfl).2.1.trm
theorem trm_no {l l' : List UInt8} {ps ps' : List Pt} {S : List UInt8 → List Pt → Prop} {H : List UInt8 → Prop} {S' : List UInt8 → List Pt → Prop} {H' : List UInt8 → Prop} (h : Got S H l false l' ps) : Got S' H' l false l' ps' := by
  obtain ⟨y, rfl, h1, h2⟩ := h
  exact ⟨y, rfl, (fun h0 => by cases h0), h2⟩
theorem trm_end {S : List UInt8 → List Pt → Prop} {H : List UInt8 → Prop} {l l' : List UInt8} {ps : List Pt} (h : Got S (fun _ => True) l true l' ps) (hh : H l') : Got S H l true l' ps := by
  obtain ⟨y, rfl, h1, h2⟩ := h
  exact ⟨y, rfl, fun _ => ⟨(h1 rfl).1, (h1 rfl).2.1, hh⟩, h2⟩
/-- A term, * or /, a factor. -/
theorem trm_mul {o : UInt8} (ho : (o.toNat : Int) = 42 ∨ (o.toNat : Int) = 47) {l r x l' : List UInt8} {p q : List Pt} (h : Got TrmS (fun _ => True) l true (o :: r) p) (hf : Fac r true (x ++ l') q) (hx : Blanks x) : Got TrmS (fun _ => True) l true l' (p ++ q ++ [((o.toNat : Int), 0)]) := by
  obtain ⟨y, rfl, h1, h2⟩ := h
  obtain ⟨z, rfl, g1, g2⟩ := hf
  have hop : opB o.toNat = true := by rcases ho with h | h <;> rw [h] <;> rfl
  refine ⟨y ++ o :: (z ++ x), by simp, fun _ => ⟨fun d k i hk => ?_, ?_, trivial⟩, fun h0 => by cases h0⟩
  · rw [(h1 rfl).1 d k _ hk, plc_op hop, (g1 rfl).1 _ k _ hk, plc_skip 11 (by simp) x hx]
    congr 1
    simp; omega
  · rw [bare_append, bare_cons (by omega), bare_append, bare_blanks hx, List.append_nil]; exact TrmS_mul (h1 rfl).2.1 (g1 rfl).2.1 o ho
theorem op_no {o : UInt8} (hop : opB o.toNat = true) {S : List UInt8 → List Pt → Prop} {H : List UInt8 → Prop} {S' : List UInt8 → List Pt → Prop} {H' : List UInt8 → Prop} {S2 : List UInt8 → List Pt → Prop} {H2 : List UInt8 → Prop} {l r l' : List UInt8} {p q p' : List Pt} (h : Got S H l true (o :: r) p) (hf : Got S' H' r false l' q) : Got S2 H2 l false l' p' := by
  obtain ⟨y, rfl, h1, h2⟩ := h
  obtain ⟨z, rfl, g1, g2⟩ := hf
  refine ⟨y ++ o :: z, by simp, (fun h0 => by cases h0), fun _ d k i hk => ?_⟩
  rw [(h1 rfl).1 d k _ hk, plc_op hop, g2 rfl _ k _ hk]
  simp; omega
/-- An expression, + or -, a term. -/
theorem exp_add {o : UInt8} (ho : (o.toNat : Int) = 43 ∨ (o.toNat : Int) = 45) {l r l' : List UInt8} {p q : List Pt} (h : Got ExpS (fun _ => True) l true (o :: r) p) (hf : Trm r true l' q) : Got ExpS (fun l => ¬ hd l = 32 ∧ ¬ hd l = 42 ∧ ¬ hd l = 47) l true l' (p ++ q ++ [((o.toNat : Int), 0)]) := by
  obtain ⟨y, rfl, h1, h2⟩ := h
  obtain ⟨z, rfl, g1, g2⟩ := hf
  have hop : opB o.toNat = true := by rcases ho with h | h <;> rw [h] <;> rfl
  refine ⟨y ++ o :: z, by simp, fun _ => ⟨fun d k i hk => ?_, ?_, (g1 rfl).2.2⟩, fun h0 => by cases h0⟩
  · rw [(h1 rfl).1 d k _ hk, plc_op hop, (g1 rfl).1 _ k _ hk]
    congr 1
    simp; omega
  · rw [bare_append, bare_cons (by omega)]; exact ExpS_add (h1 rfl).2.1 (g1 rfl).2.1 o ho
theorem exp_trm {l l' : List UInt8} {ps : List Pt} (h : Trm l true l' ps) : Got ExpS (fun l => ¬ hd l = 32 ∧ ¬ hd l = 42 ∧ ¬ hd l = 47) l true l' ps := by
  obtain ⟨y, rfl, h1, h2⟩ := h
  exact ⟨y, rfl, fun _ => ⟨(h1 rfl).1, (h1 rfl).2.1.1, (h1 rfl).2.2⟩, h2⟩
theorem got_any {S : List UInt8 → List Pt → Prop} {H : List UInt8 → Prop} {l l' : List UInt8} {ok : Bool} {ps : List Pt} (h : Got S H l ok l' ps) : Got S (fun _ => True) l ok l' ps := by
  obtain ⟨y, rfl, h1, h2⟩ := h
  exact ⟨y, rfl, fun ho => ⟨(h1 ho).1, (h1 ho).2.1, trivial⟩, h2⟩

end Db
namespace Go.Proofs.YtdchbenfccofpaaGreatDoor
open Go.RowKit Db

theorem retI {k : IntKind} {a b : Int} (h : a = b) : Ending.returned (.int k a) = .returned (.int k b) := by rw [h]
/-- The cells of parts. -/
def cellsP (ps : List Pt) : List Value := ps.flatMap fun p => [.int .u8 p.1, .int .i64 p.2]
theorem cellsP_append (p q : List Pt) : cellsP (p ++ q) = cellsP p ++ cellsP q := by simp [cellsP]
theorem cellsP_length (p : List Pt) : (cellsP p).length = p.length * 2 := by
  induction p with
  | nil => rfl
  | cons x t ih => simp [cellsP] at ih ⊢; omega

/-- The reader lies in block b: its text, its place, its parts. -/
structure Rd (w : World) (b : Nat) (t : ByteArray) (at_ : Nat) (v : Value) (ps : List Pt) : Prop where
  blk : Blk w b #[.string t, .int .i64 at_, v] 191
  own : w.ownsRow (b + 1) 197 2 v ps.length (cellsP ps)
  le : at_ ≤ t.size
  cnt : ps.length ≤ at_
  sz : t.size ≤ 200

/-- The blocks that the reader's calls may write. -/
def XR (b : Nat) (v : Value) (k : Nat) : Prop := k = b ∨ some k = v.ownBlock
/-- From w to w' the reader's calls have been at work. -/
structure RdR (b : Nat) (t : ByteArray) (v : Value) (w w' : World) (at_ : Nat) (v' : Value) (ps : List Pt) : Prop where
  rd : Rd w' b t at_ v' ps
  frm : Frm w.heap.size (XR b v) w w'
  own : v'.ownBlock = v.ownBlock ∨ ∀ k, v'.ownBlock = some k → w.heap.size ≤ k

theorem RdR.refl {b : Nat} {t : ByteArray} {v : Value} {w : World} {at_ : Nat} {ps : List Pt} (h : Rd w b t at_ v ps) : RdR b t v w w at_ v ps := ⟨h, Frm.refl _ _ _, .inl rfl⟩
theorem RdR.trans {b : Nat} {t : ByteArray} {v v1 v2 : Value} {w w1 w2 : World} {a1 a2 : Nat} {p1 p2 : List Pt} (h : RdR b t v w w1 a1 v1 p1) (k : RdR b t v1 w1 w2 a2 v2 p2) : RdR b t v w w2 a2 v2 p2 := by
  refine ⟨k.rd, h.frm.trans (k.frm.mono h.frm.size ?_), ?_⟩
  · intro j hj hx
    rcases hx with hx | hx
    · exact .inl hx
    · rcases h.own with e | e
      · exact .inr (by rw [← e]; exact hx)
      · have := e j hx.symm; omega
  · rcases k.own with e | e
    · rcases h.own with f | f
      · exact .inl (e.trans f)
      · exact .inr (fun j hj => f j (e ▸ hj))
    · exact .inr (fun j hj => Nat.le_trans h.frm.size (e j hj))
/-- The reader moved its place; nothing else is turned. -/
theorem Rd.move {b : Nat} {t : ByteArray} {v : Value} {w w1 : World} {a a' : Nat} {ps : List Pt} (h : Rd w b t a v ps) (hb : Below w.heap.size w w1) (ha : a' ≤ t.size) (hc : ps.length ≤ a') : RdR b t v w (w1.setCell ⟨b, 1, none⟩ (.int .i64 a')) a' v ps := by
  refine ⟨⟨?_, ?_, ha, hc, h.sz⟩, ?_, .inl rfl⟩
  · have := (h.blk.kept hb).set 1 (.int .i64 a')
    simpa using this
  · exact ownsRow_setCell_below (ownsRow_below h.own hb) (by simp) _
  · exact hb.frm.setCell (.inr (.inl rfl)) _
theorem Rd.draws {b : Nat} {t : ByteArray} {v : Value} {w : World} {a : Nat} {ps : List Pt} (h : Rd w b t a v ps) (n : Nat) : RdR b t v w (w.drewN n) a v ps :=
  ⟨⟨h.blk, h.own, h.le, h.cnt, h.sz⟩, (Frm.refl _ _ _).drewN n, .inl rfl⟩
theorem RdR.draws {b : Nat} {t : ByteArray} {v v' : Value} {w w1 : World} {a : Nat} {ps : List Pt} (h : RdR b t v w w1 a v' ps) (n : Nat) : RdR b t v w (w1.drewN n) a v' ps := h.trans (h.rd.draws n)
theorem Rd.below {b : Nat} {t : ByteArray} {v : Value} {w w1 : World} {a : Nat} {ps : List Pt} (h : Rd w b t a v ps) (hb : Below w.heap.size w w1) : RdR b t v w w1 a v ps :=
  ⟨⟨h.blk.kept hb, ownsRow_below h.own hb, h.le, h.cnt, h.sz⟩, hb.frm, .inl rfl⟩
theorem RdR.move {b : Nat} {t : ByteArray} {v v' : Value} {w w1 : World} {a a' : Nat} {ps : List Pt} (h : RdR b t v w w1 a v' ps) (ha : a' ≤ t.size) (hc : ps.length ≤ a') : RdR b t v w (w1.setCell ⟨b, 1, none⟩ (.int .i64 a')) a' v' ps := h.trans (h.rd.move (Below.refl _ _) ha hc)

/-- The three cells, as the walk wants them. -/
theorem Rd.c0 {w : World} {b : Nat} {t : ByteArray} {a : Nat} {v : Value} {ps : List Pt} (h : Rd w b t a v ps) : w.cell? ⟨b, 0, none⟩ = some (.string t) := h.blk.cell 0
theorem Rd.c1 {w : World} {b : Nat} {t : ByteArray} {a : Nat} {v : Value} {ps : List Pt} (h : Rd w b t a v ps) : w.cell? ⟨b, 1, none⟩ = some (.int .i64 a) := h.blk.cell 1
theorem Rd.c2 {w : World} {b : Nat} {t : ByteArray} {a : Nat} {v : Value} {ps : List Pt} (h : Rd w b t a v ps) : w.cell? ⟨b, 2, none⟩ = some v := h.blk.cell 2
theorem Rd.z1 {w : World} {b : Nat} {t : ByteArray} {a : Nat} {v : Value} {ps : List Pt} (h : Rd w b t a v ps) : w.frozen? ⟨b, 1, none⟩ = false := h.blk.frozen 1
theorem Rd.z2 {w : World} {b : Nat} {t : ByteArray} {a : Nat} {v : Value} {ps : List Pt} (h : Rd w b t a v ps) : w.frozen? ⟨b, 2, none⟩ = false := h.blk.frozen 2

theorem blanks_snoc (t : ByteArray) (p k : Nat) (x : List UInt8) (hk : k < t.size) (h32 : t[k].toNat = 32) (h : (L t).drop p = x ++ (L t).drop k) (hx : Blanks x) : (L t).drop p = (x ++ [t[k]]) ++ (L t).drop (k + 1) ∧ Blanks (x ++ [t[k]]) := by
  refine ⟨by rw [h, L_drop t k hk]; simp, ?_⟩
  intro c hc
  simp at hc
  rcases hc with hc | rfl
  · exact hx c hc
  · exact h32
theorem hd_drop (t : ByteArray) (k : Nat) (hk : k < t.size) : hd ((L t).drop k) = (t[k].toNat : Int) := by rw [L_drop t k hk]; rfl
theorem hd_end (t : ByteArray) (k : Nat) (hk : t.size ≤ k) : hd ((L t).drop k) = 0 := by rw [L_drop_end t k hk]; rfl

set_option maxHeartbeats 1000000 in
theorem skipBlanks_any (b : Nat) (t : ByteArray) (p : Nat) (v : Value) (ps : List Pt) (w : World) (h : Rd w b t p v ps) :
    Calls Tryz.prog 213 #[.pointer (some ⟨b, 0, none⟩)] w fun e w' => e = .returned (.tuple #[]) ∧ ∃ p' x, p ≤ p' ∧ RdR b t v w w' p' v ps ∧ (L t).drop p = x ++ (L t).drop p' ∧ Blanks x ∧ ¬ hd ((L t).drop p') = 32 := by
  have H := hide h
  have hsz := h.sz
  clear h
  go_enter Tryz.func213, Tryz.ntmps213
  go_wp2_with fail
  go_loopg [] (t.size - p) (fun m wr => ∃ k x, p ≤ k ∧ k ≤ t.size ∧ m = t.size - k ∧ Hid (RdR b t v w wr k v ps) ∧ Hid ((L t).drop p = x ++ (L t).drop k) ∧ Hid (Blanks x))
  case atStart => exact ⟨p, [], Nat.le_refl _, (unhide H).le, rfl, RdR.refl (unhide H), rfl, by intro c hc; cases hc⟩
  case round =>
    obtain ⟨k, x, hpk, hk, rfl, Hr, Hx, Hb⟩ := hrel
    have c0 := (unhide Hr).rd.c0
    have c1 := (unhide Hr).rd.c1
    have z1 := (unhide Hr).rd.z1
    by_cases hlt : k < t.size
    · have d1 : decide ((k : Int) < (t.size : Int)) = true := by simp; omega
      by_cases h32 : t[k].toNat = 32
      · have e32 : ((t[k].toNat : Int) == 32) = true := by simp; omega
        have Hs := hide (blanks_snoc t p k x hlt h32 (unhide Hx) (unhide Hb))
        go_wp2_with fail
        go_quiet (fail)
        go_wp2_with fail
        go_roundg (t.size - (k + 1))
        case measure => omega
        case rel =>
          refine ⟨k + 1, _, by omega, by omega, rfl, ?_, (unhide Hs).1, (unhide Hs).2⟩
          have := ((unhide Hr).draws nq).move (a' := k + 1) (by omega) (by have := (unhide Hr).rd.cnt; omega)
          show RdR _ _ _ _ _ _ _ _
          simpa using this
      · have e32 : ((t[k].toNat : Int) == 32) = false := by simp; omega
        have Hn : Hid (¬ hd ((L t).drop k) = 32) := by show ¬ _; rw [hd_drop t k hlt]; omega
        go_wp2_with fail
        go_quiet (fail)
        go_wp2_with fail
        go_end0
        exact ⟨rfl, k, x, hpk, (unhide Hr).draws _, unhide Hx, unhide Hb, unhide Hn⟩
    · have d1 : decide ((k : Int) < (t.size : Int)) = false := by simp; omega
      have Hn : Hid (¬ hd ((L t).drop k) = 32) := by show ¬ _; rw [hd_end t k (by omega)]; omega
      go_wp2_with fail
      go_quiet (fail)
      go_wp2_with fail
      go_end0
      exact ⟨rfl, k, x, hpk, (unhide Hr).draws _, unhide Hx, unhide Hb, unhide Hn⟩

/-- What stands behind the blanks. -/
structure Skp (t : ByteArray) (p p' : Nat) (x : List UInt8) : Prop where
  le : p ≤ p'
  eq : (L t).drop p = x ++ (L t).drop p'
  bl : Blanks x
  nb : ¬ hd ((L t).drop p') = 32

set_option maxHeartbeats 1000000 in
theorem next_any (b : Nat) (t : ByteArray) (p : Nat) (v : Value) (ps : List Pt) (w : World) (h : Rd w b t p v ps) :
    Calls Tryz.prog 197 #[.pointer (some ⟨b, 0, none⟩)] w fun e w' => ∃ p' x, e = .returned (.int .u8 (hd ((L t).drop p'))) ∧ RdR b t v w w' p' v ps ∧ Skp t p p' x := by
  have H := hide h
  have hsz := h.sz
  clear h
  go_enter Tryz.func197, Tryz.ntmps197
  go_wp2_with fail
  refine (skipBlanks_any b t p v ps _ (unhide H)).mono ?_
  rintro e w1 ⟨rfl, p', x, hp, hr, hx, hb, hn⟩
  have c0 := hr.rd.c0
  have c1 := hr.rd.c1
  have Hr := hide hr
  have Hs : Hid (Skp t p p' x) := ⟨hp, hx, hb, hn⟩
  clear hr hx hb hn hp
  by_cases hlt : p' < t.size
  · have d1 : decide ((p' : Int) < (t.size : Int)) = true := by simp; omega
    have Hh := hide (hd_drop t p' hlt)
    go_wp2_with fail
    go_quiet (fail)
    go_wp2_with fail
    go_quiet (fail)
    go_wp2_with fail
    go_ret
    exact ⟨p', x, retI (unhide Hh).symm, ((unhide Hr).draws _).draws _, unhide Hs⟩
  · have d1 : decide ((p' : Int) < (t.size : Int)) = false := by simp; omega
    have Hh := hide (hd_end t p' (by omega))
    go_wp2_with fail
    go_quiet (fail)
    go_wp2_with fail
    go_ret
    exact ⟨p', x, retI (unhide Hh).symm, (unhide Hr).draws _, unhide Hs⟩

set_option maxHeartbeats 1000000 in
theorem accept_any (b : Nat) (t : ByteArray) (p : Nat) (v : Value) (ps : List Pt) (c : Int) (w : World) (h : Rd w b t p v ps) (hc : 0 < c) :
    Calls Tryz.prog 171 #[.pointer (some ⟨b, 0, none⟩), .int .u8 c] w fun e w' => ∃ p' x, Skp t p p' x ∧
      ((¬ hd ((L t).drop p') = c ∧ e = .returned (.bool false) ∧ RdR b t v w w' p' v ps) ∨ (∃ y, (y.toNat : Int) = c ∧ (L t).drop p' = y :: (L t).drop (p' + 1) ∧ e = .returned (.bool true) ∧ RdR b t v w w' (p' + 1) v ps)) := by
  have H := hide h
  have hsz := h.sz
  clear h
  go_enter Tryz.func171, Tryz.ntmps171
  go_wp2_with fail
  refine (next_any b t p v ps _ (unhide H)).mono ?_
  rintro e w1 ⟨p', x, rfl, hr, hs⟩
  have c1 := hr.rd.c1
  have z1 := hr.rd.z1
  have hle := hr.rd.le
  have Hr := hide hr
  have Hs := hide hs
  clear hr hs
  obtain ⟨y, hy⟩ : ∃ y, hd ((L t).drop p') = y := ⟨_, rfl⟩
  rw [hy]
  have Hy := hide hy
  clear hy
  by_cases hyc : y = c
  · have e1 : (y != c) = false := by simp [hyc]
    have hlt : p' < t.size := by
      have := unhide Hy
      by_cases h : p' < t.size
      · exact h
      · rw [hd_end t p' (by omega)] at this; omega
    have Hl := hide (L_drop t p' hlt)
    have Hyc : Hid ((t[p'].toNat : Int) = c) := by show _ = _; rw [← hd_drop t p' hlt, unhide Hy, hyc]
    clear hyc
    go_wp2_with fail
    go_ret
    refine ⟨p', x, unhide Hs, .inr ⟨t[p'], unhide Hyc, unhide Hl, rfl, ?_⟩⟩
    have := (unhide Hr).move (a' := p' + 1) (by omega) (by have := (unhide Hr).rd.cnt; omega)
    simpa using this
  · have e1 : (y != c) = true := by simp [bne, hyc]
    have Hyc := hide hyc
    go_wp2_with fail
    go_ret
    exact ⟨p', x, unhide Hs, .inl ⟨by rw [unhide Hy]; exact unhide Hyc, rfl, unhide Hr⟩⟩

end Go.Proofs.YtdchbenfccofpaaGreatDoor
namespace Go.Proofs.YtdchbenfccofpaaGreatDoor
open Go.RowKit Db

/-- Digits that were read: as many as there are, but no more than m. -/
structure Dg (m : Nat) (l ds l' : List UInt8) : Prop where
  eq : l = ds ++ l'
  dig : ∀ c ∈ ds, digB c.toNat = true
  le : ds.length ≤ m
  stop : ds.length = m ∨ digB (hd l') = false

theorem valGo_snoc (l : List UInt8) (c : UInt8) : ∀ n, valGo n (l ++ [c]) = 10 * valGo n l + ((c.toNat : Int) - 48) := by
  induction l with
  | nil => intro n; rfl
  | cons x t ih => intro n; exact ih _
theorem val_snoc (l : List UInt8) (c : UInt8) : val (l ++ [c]) = 10 * val l + ((c.toNat : Int) - 48) := valGo_snoc l c 0
theorem val_lt (l : List UInt8) (h : ∀ c ∈ l, digB c.toNat = true) : val l < 10 ^ l.length := by
  have key : ∀ (l : List UInt8), (∀ c ∈ l, digB c.toNat = true) → ∀ n k : Int, 0 ≤ n → n < k → valGo n l < k * 10 ^ l.length := by
    intro l
    induction l with
    | nil => intro _ n k _ h; simpa [valGo] using h
    | cons c r ih =>
      intro hd n k h0 h
      have hc := hd c (by simp)
      simp [digB] at hc
      have := ih (fun x hx => hd x (by simp [hx])) (10 * n + ((c.toNat : Int) - 48)) (10 * k) (by omega) (by omega)
      have e : (10 * k) * 10 ^ r.length = k * 10 ^ (c :: r).length := by
        rw [List.length_cons, Int.pow_succ]
        rw [Int.mul_comm 10 k, Int.mul_assoc, Int.mul_comm 10]
      rw [← e]
      exact this
  have := key l h 0 1 (by omega) (by omega)
  rw [Int.one_mul] at this
  exact this
theorem pow_le17 (n : Nat) (h : n ≤ 17) : (10 : Int) ^ n ≤ 100000000000000000 := by
  have : ∀ k : Nat, k ≤ 17 → (10 : Int) ^ k ≤ 10 ^ 17 := by
    intro k hk
    obtain ⟨d, hd⟩ := Nat.le.dest hk
    rw [← hd, Int.pow_add]
    have h1 : (1 : Int) ≤ 10 ^ d := by
      clear hd hk
      induction d with
      | zero => simp
      | succ d ih => rw [Int.pow_succ]; omega
    have h2 : (0 : Int) ≤ 10 ^ k := by
      clear hd hk h1
      induction k with
      | zero => simp
      | succ k ih => rw [Int.pow_succ]; omega
    calc (10 : Int) ^ k = 10 ^ k * 1 := by rw [Int.mul_one]
      _ ≤ 10 ^ k * 10 ^ d := Int.mul_le_mul_of_nonneg_left h1 h2
  exact this n h
theorem dg_bound (l : List UInt8) (h : ∀ c ∈ l, digB c.toNat = true) (hl : l.length ≤ 17) : 0 ≤ val l ∧ val l ≤ 99999999999999999 := by
  have h1 := val_pos l h
  have h2 := val_lt l h
  have h3 := pow_le17 l.length hl
  omega

set_option maxHeartbeats 1000000 in
theorem digits_any (b : Nat) (t : ByteArray) (p : Nat) (v : Value) (ps : List Pt) (m : Nat) (w : World) (h : Rd w b t p v ps) (hm : m ≤ 18) :
    Calls Tryz.prog 214 #[.pointer (some ⟨b, 0, none⟩), .int .i64 (m : Int)] w fun e w' => ∃ ds p', e = .returned (.tuple #[.int .i64 (val ds), .bool (decide (0 < ds.length))]) ∧
      Dg m ((L t).drop p) ds ((L t).drop p') ∧ p' = p + ds.length ∧ RdR b t v w w' p' v ps := by
  have H := hide h
  have hsz := h.sz
  clear h
  go_enter Tryz.func214, Tryz.ntmps214
  go_wp2_with fail
  go_loopg [6, 7] (t.size - p) (fun mm n c wr => ∃ ds k, k = p + ds.length ∧ k ≤ t.size ∧ mm = t.size - k ∧ n = .int .i64 (val ds) ∧ c = .int .i64 (ds.length : Int) ∧ ds.length ≤ m ∧ Hid (RdR b t v w wr k v ps) ∧ Hid ((L t).drop p = ds ++ (L t).drop k) ∧ Hid (∀ c ∈ ds, digB c.toNat = true))
  case atStart => exact ⟨[], p, rfl, (unhide H).le, rfl, rfl, rfl, Nat.zero_le _, RdR.refl (unhide H), rfl, by intro c hc; cases hc⟩
  case round =>
    obtain ⟨ds, k, hk, hkz, rfl, rfl, rfl, hdm, Hr, Hx, Hd⟩ := hrel
    have c0 := (unhide Hr).rd.c0
    have c1 := (unhide Hr).rd.c1
    have z1 := (unhide Hr).rd.z1
    have Hk := hide hk
    clear hk
    by_cases hlm : ds.length < m
    · have d0 : decide ((ds.length : Int) < (m : Int)) = true := by simp; omega
      by_cases hlt : k < t.size
      · have d1 : decide ((k : Int) < (t.size : Int)) = true := by simp; omega
        by_cases hdig : digB (t[k].toNat : Int) = true
        · have hdd := hdig
          simp [digB] at hdd
          obtain ⟨hd1, hd2⟩ := hdd
          obtain ⟨hv0, hv1⟩ := dg_bound ds (unhide Hd) (by omega)
          have Hdig := hide hdig
          clear hdig
          go_wp2_with fail
          go_quiet (fail)
          go_wp2_with fail
          go_quiet (fail)
          go_wp2_with fail
          go_roundg (t.size - (k + 1))
          case measure => omega
          case rel =>
            refine ⟨ds ++ [t[k]], k + 1, ?_, by omega, rfl, ?_, ?_, by simp; omega, ?_, ?_, ?_⟩
            · have := unhide Hk; simp; omega
            · rw [val_snoc]; congr 1; omega
            · simp
            · have h0 := fun n => ((unhide Hr).draws n).move (a' := k + 1) (by omega) (by have := (unhide Hr).rd.cnt; omega)
              show RdR _ _ _ _ _ _ _ _
              simpa using h0 _
            · show _ = _
              rw [unhide Hx, L_drop t k hlt]; simp
            · intro c hc
              simp at hc
              rcases hc with hc | rfl
              · exact unhide Hd c hc
              · exact unhide Hdig
        · have hnd : digB (t[k].toNat : Int) = false := by simpa using hdig
          have Hst : Hid (digB (hd ((L t).drop k)) = false) := by show _ = _; rw [hd_drop t k hlt]; exact hnd
          have hcs : (t[k].toNat : Int) < 48 ∨ 57 < (t[k].toNat : Int) := by simp [digB] at hnd; omega
          clear hdig hnd
          rcases hcs with hcs | hcs
          all_goals
            go_wp2_with fail
            go_quiet (fail)
            go_wp2_with fail
            go_quiet (fail)
            go_wp2_with fail
            go_ret2
            exact ⟨ds, k, rfl, ⟨unhide Hx, unhide Hd, hdm, .inr (unhide Hst)⟩, unhide Hk, (unhide Hr).draws _⟩
      · have d1 : decide ((k : Int) < (t.size : Int)) = false := by simp; omega
        have Hst : Hid (digB (hd ((L t).drop k)) = false) := by show _ = _; rw [hd_end t k (by omega)]; rfl
        go_wp2_with fail
        go_quiet (fail)
        go_wp2_with fail
        go_ret2
        exact ⟨ds, k, rfl, ⟨unhide Hx, unhide Hd, hdm, .inr (unhide Hst)⟩, unhide Hk, (unhide Hr).draws _⟩
    · have d0 : decide ((ds.length : Int) < (m : Int)) = false := by simp; omega
      go_wp2_with fail
      go_quiet (fail)
      go_wp2_with fail
      go_ret2
      exact ⟨ds, k, rfl, ⟨unhide Hx, unhide Hd, hdm, .inl (by omega)⟩, unhide Hk, (unhide Hr).draws _⟩

set_option maxHeartbeats 1000000 in
theorem day_any (b : Nat) (t : ByteArray) (p : Nat) (v : Value) (ps : List Pt) (w : World) (h : Rd w b t p v ps) :
    Calls Tryz.prog 198 #[.pointer (some ⟨b, 0, none⟩)] w fun e w' => ∃ x ds p1 p', e = .returned (.tuple #[.int .i64 (val ds), .bool (decide (0 < ds.length))]) ∧
      Skp t p p1 x ∧ Dg 3 ((L t).drop p1) ds ((L t).drop p') ∧ p' = p1 + ds.length ∧ RdR b t v w w' p' v ps := by
  have H := hide h
  clear h
  go_enter Tryz.func198, Tryz.ntmps198
  go_wp2_with fail
  refine (skipBlanks_any b t p v ps _ (unhide H)).mono ?_
  rintro e w1 ⟨rfl, p1, x, hp, hr, hx, hb, hn⟩
  have Hr := hide hr
  have Hs : Hid (Skp t p p1 x) := ⟨hp, hx, hb, hn⟩
  clear hr hx hb hn hp
  go_wp2_with fail
  refine (digits_any b t p1 v ps 3 _ (unhide Hr).rd (by omega)).mono ?_
  rintro e w2 ⟨ds, p', rfl, hd, hpe, hr2⟩
  have Hd := hide hd
  have Hpe := hide hpe
  have Hr2 := hide ((unhide Hr).trans hr2)
  clear hd hpe hr2
  go_wp2_with fail
  go_ret2
  exact ⟨x, ds, p1, p', rfl, unhide Hs, unhide Hd, unhide Hpe, unhide Hr2⟩

end Go.Proofs.YtdchbenfccofpaaGreatDoor
namespace Go.Proofs.YtdchbenfccofpaaGreatDoor
open Go.RowKit Db

/-- The grid as it lies, whatever else. -/
def Grd (w : World) (g : Nat) (s : Bk) (pd : List (List UInt8 × List UInt8)) (cells : List (List Cl)) : Prop := ∃ pb B vf vt vr vc ss vs, GridAt w g s pd cells pb B vf vt vr vc ss vs
theorem Grd.kept {w w' : World} {g : Nat} {s : Bk} {pd : List (List UInt8 × List UInt8)} {cells : List (List Cl)} (h : Grd w g s pd cells) (hb : Below w.heap.size w w') : Grd w' g s pd cells := by
  obtain ⟨a, b, c, d, e, f, i, j, h⟩ := h
  exact ⟨a, b, c, d, e, f, i, j, h.kept hb⟩
theorem dig_at {t : ByteArray} {l : List UInt8} (h : L t = l) (hd : ∀ c ∈ l, digB c.toNat = true) : ∀ k (hk : k < t.size), 48 ≤ t[k].toNat ∧ t[k].toNat ≤ 57 := by
  intro k hk
  have := hd t[k] (by rw [← h, ← L_get t k hk]; exact List.getElem_mem _)
  simp [digB] at this
  omega
theorem val_in {l : List UInt8} (h : l.length ≤ 18) (hd : ∀ c ∈ l, digB c.toNat = true) : inR (val l) = true := by
  have h1 := val_pos l hd
  have h2 := val_lt l hd
  have h3 : (10 : Int) ^ l.length ≤ 10 ^ 18 := by
    have : (10 : Nat) ^ l.length ≤ 10 ^ 18 := Nat.pow_le_pow_right (by omega) h
    exact_mod_cast this
  have : (10 : Int) ^ 18 = 1000000000000000000 := by decide
  rw [inR_iff]; omega

set_option maxRecDepth 100000 in
set_option maxHeartbeats 2000000 in
theorem gOpnd_num (t : ByteArray) (g k : Nat) (w : World) (h1 : 1 ≤ (L t).length) (h18 : (L t).length ≤ 18) (hd : ∀ c ∈ L t, digB c.toNat = true) :
    Calls Tryz.prog 120 #[.pointer (some ⟨g, 0, none⟩), .string t, .int .i64 (k : Int)] w fun e w' => e = .returned (clV (val (L t), 0)) ∧ Below w.heap.size w w' := by
  have hz : 0 < t.size := by rw [← L_length]; omega
  have hd0 : digB (t[0].toNat : Int) = true := hd _ (by rw [← L_get t 0 hz]; exact List.getElem_mem _)
  have Hd0 := hide hd0
  have hs : t.size ≤ 18 := by rw [← L_length]; exact h18
  have Hda := hide (dig_at rfl hd)
  clear hd hd0 h1 h18
  go_enter Tryz.func120, Tryz.ntmps120
  go_wp2_with fail
  refine (digit_any _ _).mono ?_
  rintro e w1 ⟨rfl, rfl⟩
  rw [unhide Hd0]
  go_wp2_with fail
  refine (value_any t _ hs (unhide Hda)).mono ?_
  rintro e w1 ⟨rfl, _, _, rfl⟩
  go_wp2_with fail
  refine bodyPost_ret (v := clV (val (L t), 0)) (by simp [results, Tryz.results120, go_sem, clV]) rfl ⟨rfl, ?_⟩
  first
    | exact (((Below.refl _ _).alloc (Nat.le_refl _) _).setCell (by simp) _).setCell (by simp) _
    | exact (Below.refl _ _).alloc (Nat.le_refl _) _

/-- What stands behind the sign. -/
theorem sign_val {t : ByteArray} {c : UInt8} {ds : List UInt8} (he : L t = c :: ds) (h1 : 1 ≤ ds.length) (h2 : ds.length ≤ 2) (hd : ∀ x ∈ ds, digB x.toNat = true) :
    1 < t.size ∧ t.size ≤ 3 ∧ (∀ hz : 0 < t.size, t[0] = c) ∧ (t.extract 1 t.size).size ≤ 18 ∧ (∀ k (hk : k < (t.extract 1 t.size).size), 48 ≤ (t.extract 1 t.size)[k].toNat ∧ (t.extract 1 t.size)[k].toNat ≤ 57) ∧ ∃ n : Nat, val (L (t.extract 1 t.size)) = n ∧ val ds = n := by
  have hsz : t.size = ds.length + 1 := by rw [← L_length, he]; rfl
  have hex : L (t.extract 1 t.size) = ds := by
    rw [L_extract, he, List.drop_succ_cons, List.drop_zero]
    exact List.take_of_length_le (by omega)
  refine ⟨by omega, by omega, fun hz => ?_, ?_, dig_at hex hd, (val ds).toNat, ?_, ?_⟩
  · have e1 := L_get? t 0 hz
    rw [he] at e1
    simpa using e1.symm
  · rw [← L_length, hex]; omega
  · rw [hex]; have := val_pos ds hd; omega
  · have := val_pos ds hd; omega

set_option maxRecDepth 100000 in
set_option maxHeartbeats 2000000 in
theorem gOpnd_row (t : ByteArray) (g k : Nat) (s : Bk) (pd : List (List UInt8 × List UInt8)) (cells : List (List Cl)) (w : World) (c : UInt8) (ds : List UInt8) (he : L t = c :: ds) (h1 : 1 ≤ ds.length) (h2 : ds.length ≤ 2) (hd : ∀ x ∈ ds, digB x.toNat = true)
    (hc : (c.toNat : Int) = 36) (h : Grd w g s pd cells) (hk : k < pd.length) (hn : (val ds).toNat < cells.length) :
    Calls Tryz.prog 120 #[.pointer (some ⟨g, 0, none⟩), .string t, .int .i64 (k : Int)] w fun e w' => e = .returned (clV ((cells.getD (val ds).toNat []).getD k (0, 0))) ∧ Below w.heap.size w w' := by
  obtain ⟨hz1, hz3, ht0, hes, hed, n, hv, hn2⟩ := sign_val he h1 h2 hd
  obtain ⟨pb, B, vf, vt, vr, vc, ss, vs, h⟩ := h
  rw [hn2, Int.toNat_natCast] at hn ⊢
  obtain ⟨gc, capc, _, gr, capr, x, y, rfl, r1, _, r2, r3, hxy, hgc, hgr⟩ := row_get h hn hk
  rw [hxy]
  have c4 := (five_cells h.blk).2.2.2.2
  have hgl := h.blk.lt
  have h36 : (t[0].toNat : Int) = 36 := by rw [ht0 (by omega)]; exact hc
  have hf := h.few
  have Hed := hide hed
  have Hv := hide hv
  have hnc : (n : Int) < (cells.length : Int) := by omega
  have hkp : (k : Int) < (pd.length : Int) := by omega
  have hz : 0 < t.size := by omega
  clear h he h1 h2 hd hc hn2 ht0 hed hv hxy
  go_enter Tryz.func120, Tryz.ntmps120
  go_wp2_with fail
  refine (digit_any _ _).mono ?_
  rintro e w1 ⟨rfl, rfl⟩
  rw [show digB (36 : Int) = false from rfl]
  go_wp2_with fail
  refine (value_any _ _ hes (unhide Hed)).mono ?_
  rintro e w1 ⟨rfl, _, _, rfl⟩
  rw [unhide Hv]
  go_wp2_with fail
  refine bodyPost_ret (v := clV (x, y)) (by simp [results, Tryz.results120, go_sem, clV]) rfl ⟨rfl, ?_⟩
  first
    | exact (((Below.refl _ _).alloc (Nat.le_refl _) _).setCell (by simp) _).setCell (by simp) _
    | exact (Below.refl _ _).alloc (Nat.le_refl _) _

set_option maxRecDepth 100000 in
set_option maxHeartbeats 2000000 in
theorem gOpnd_first (t : ByteArray) (g : Nat) (w : World) (c : UInt8) (ds : List UInt8) (he : L t = c :: ds) (h1 : 1 ≤ ds.length) (h2 : ds.length ≤ 2) (hd : ∀ x ∈ ds, digB x.toNat = true)
    (hc : (c.toNat : Int) = 60) :
    Calls Tryz.prog 120 #[.pointer (some ⟨g, 0, none⟩), .string t, .int .i64 0] w fun e w' => e = .returned (clV (0, 0)) ∧ Below w.heap.size w w' := by
  obtain ⟨hz1, hz3, ht0, hes, hed, n, hv, hn2⟩ := sign_val he h1 h2 hd
  have h36 : (t[0].toNat : Int) = 60 := by rw [ht0 (by omega)]; exact hc
  have Hed := hide hed
  have Hv := hide hv
  have hz : 0 < t.size := by omega
  clear he h1 h2 hd hc hn2 ht0 hed hv
  go_enter Tryz.func120, Tryz.ntmps120
  go_wp2_with fail
  refine (digit_any _ _).mono ?_
  rintro e w1 ⟨rfl, rfl⟩
  rw [show digB (60 : Int) = false from rfl]
  go_wp2_with fail
  refine (value_any _ _ hes (unhide Hed)).mono ?_
  rintro e w1 ⟨rfl, _, _, rfl⟩
  rw [unhide Hv]
  go_wp2_with fail
  refine bodyPost_ret (v := clV (0, 0)) (by simp [results, Tryz.results120, go_sem, clV]) rfl ⟨rfl, ?_⟩
  first
    | exact (((Below.refl _ _).alloc (Nat.le_refl _) _).setCell (by simp) _).setCell (by simp) _
    | exact (Below.refl _ _).alloc (Nat.le_refl _) _

set_option maxRecDepth 100000 in
set_option maxHeartbeats 2000000 in
theorem gOpnd_prev (t : ByteArray) (g k : Nat) (s : Bk) (pd : List (List UInt8 × List UInt8)) (cells : List (List Cl)) (w : World) (c : UInt8) (ds : List UInt8) (he : L t = c :: ds) (h1 : 1 ≤ ds.length) (h2 : ds.length ≤ 2) (hd : ∀ x ∈ ds, digB x.toNat = true)
    (hc : (c.toNat : Int) = 60) (h : Grd w g s pd cells) (hk : k < pd.length) (hn : (val ds).toNat < cells.length) :
    Calls Tryz.prog 120 #[.pointer (some ⟨g, 0, none⟩), .string t, .int .i64 ((k + 1 : Nat) : Int)] w fun e w' => e = .returned (clV ((cells.getD (val ds).toNat []).getD k (0, 0))) ∧ Below w.heap.size w w' := by
  obtain ⟨hz1, hz3, ht0, hes, hed, n, hv, hn2⟩ := sign_val he h1 h2 hd
  obtain ⟨pb, B, vf, vt, vr, vc, ss, vs, h⟩ := h
  rw [hn2, Int.toNat_natCast] at hn ⊢
  obtain ⟨gc, capc, _, gr, capr, x, y, rfl, r1, _, r2, r3, hxy, hgc, hgr⟩ := row_get h hn hk
  rw [hxy]
  have c4 := (five_cells h.blk).2.2.2.2
  have hgl := h.blk.lt
  have h36 : (t[0].toNat : Int) = 60 := by rw [ht0 (by omega)]; exact hc
  have hf := h.few
  have Hed := hide hed
  have Hv := hide hv
  have hnc : (n : Int) < (cells.length : Int) := by omega
  have hkp : (k : Int) < (pd.length : Int) := by omega
  have hz : 0 < t.size := by omega
  have hk4 : k ≤ 4 := by omega
  have hk0 : (((k + 1 : Nat) : Int) == 0) = false := by simp; omega
  have hk1 : ((k + 1 : Nat) : Int) = (k : Int) + 1 := by omega
  clear h he h1 h2 hd hc hn2 ht0 hed hv hxy
  go_enter Tryz.func120, Tryz.ntmps120
  go_wp2_with fail
  refine (digit_any _ _).mono ?_
  rintro e w1 ⟨rfl, rfl⟩
  rw [show digB (60 : Int) = false from rfl]
  go_wp2_with fail
  refine (value_any _ _ hes (unhide Hed)).mono ?_
  rintro e w1 ⟨rfl, _, _, rfl⟩
  rw [unhide Hv]
  go_wp2_with fail
  refine bodyPost_ret (v := clV (x, y)) (by simp [results, Tryz.results120, go_sem, clV]) rfl ⟨rfl, ?_⟩
  first
    | exact (((Below.refl _ _).alloc (Nat.le_refl _) _).setCell (by simp) _).setCell (by simp) _
    | exact (Below.refl _ _).alloc (Nat.le_refl _) _

/-- The cells that an operand with a sign reads. -/
theorem day_get {w : World} {g : Nat} {s : Bk} {pd : List (List UInt8 × List UInt8)} {cells : List (List Cl)} {pb B : Nat} {vf vt vr vc : Value} {ss : List ByteArray} {vs : List Value} (h : GridAt w g s pd cells pb B vf vt vr vc ss vs) {k : Nat} (hk : k < pd.length) :
    ∃ gf capf gt capt x y, vf = .slice (some ⟨gf, 0, none⟩) pd.length capf ∧ vt = .slice (some ⟨gt, 0, none⟩) pd.length capt ∧ w.cell? ⟨gf, k, none⟩ = some (.int .i64 x) ∧ w.cell? ⟨gt, k, none⟩ = some (.int .i64 y) ∧ (pdv pd).getD k (0, 0) = (x, y) ∧ gf < w.heap.size ∧ gt < w.heap.size := by
  obtain ⟨gf, capf, rfl, _, hf⟩ := ownsRow_some h.sh.rf (by omega)
  obtain ⟨gt, capt, rfl, _, ht⟩ := ownsRow_some h.sh.rt (by omega)
  obtain ⟨p, hp⟩ : ∃ p, pd[k]? = some p := ⟨pd[k], List.getElem?_eq_getElem hk⟩
  have d1 := ownsRow_cell h.sh.rf (j := k) (u := .int .i64 (val p.1)) (by rw [List.getElem?_map, hp]; rfl)
  have d2 := ownsRow_cell h.sh.rt (j := k) (u := .int .i64 (val p.2)) (by rw [List.getElem?_map, hp]; rfl)
  refine ⟨gf, capf, gt, capt, _, _, rfl, rfl, d1, d2, ?_, hf, ht⟩
  rw [List.getD_eq_getElem?_getD, show (pdv pd)[k]? = some (val p.1, val p.2) by unfold pdv; rw [List.getElem?_map, hp]; rfl, Option.getD_some]
def selC (s : Bk) (sel n a b : Int) : Cl := if sel == 35 then ((tkT (inA s sel n) a b s.txs).2, 0) else ((tkT (inA s sel n) a b s.txs).1, 0)
theorem kept_cell' {W W' : World} (h : Below W.heap.size W W') {a : Addr} {v : Value} (hc : W.cell? a = some v) : W'.cell? a = some v := by
  rw [h.cell (World.block_lt_of_cell? W a hc)]; exact hc

set_option maxRecDepth 100000 in
set_option maxHeartbeats 4000000 in
theorem gOpnd_sel (t : ByteArray) (g k : Nat) (s : Bk) (pd : List (List UInt8 × List UInt8)) (cells : List (List Cl)) (w : World) (c : UInt8) (ds : List UInt8) (he : L t = c :: ds) (h1 : 1 ≤ ds.length) (h2 : ds.length ≤ 2) (hd : ∀ x ∈ ds, digB x.toNat = true)
    (hc : selB (c.toNat : Int) = true) (h : Grd w g s pd cells) (hk : k < pd.length) :
    Calls Tryz.prog 120 #[.pointer (some ⟨g, 0, none⟩), .string t, .int .i64 (k : Int)] w fun e w' => e = .returned (clV (selC s c.toNat (val ds) ((pdv pd).getD k (0, 0)).1 ((pdv pd).getD k (0, 0)).2)) ∧ Below w.heap.size w w' := by
  obtain ⟨hz1, hz3, ht0, hes, hed, n, hv, hn2⟩ := sign_val he h1 h2 hd
  obtain ⟨pb, B, vf, vt, vr, vc, ss, vs, h⟩ := h
  obtain ⟨gf, capf, gt, capt, x, y, rfl, rfl, d1, d2, hxy, hgf, hgt⟩ := day_get h hk
  obtain ⟨B', hR⟩ := h.bk
  rw [hn2, hxy]
  obtain ⟨c0, c1, c2, c3, c4⟩ := five_cells h.blk
  have hgl := h.blk.lt
  have hsz : t[0].toNat = c.toNat := by rw [ht0 (by omega)]
  obtain ⟨o, ho⟩ : ∃ o : Int, (c.toNat : Int) = o := ⟨_, rfl⟩
  have hto : (t[0].toNat : Int) = o := by rw [hsz]; exact ho
  rw [ho] at hc ⊢
  have hdg : digB o = false := by simp [selB] at hc; rcases hc with (rfl | rfl) | rfl <;> rfl
  have n36 := sel_ne hc 36 rfl
  have n60 := sel_ne hc 60 rfl
  have hf := h.few
  have Hed := hide hed
  have Hv := hide hv
  have hkp : (k : Int) < (pd.length : Int) := by omega
  have hz : 0 < t.size := by omega
  have Hdg := hide hdg
  have Htk := hide (fun (wx : World) (hb : Below w.heap.size w wx) => taken_any B' pb s o n x y wx (hR.kept hb))
  obtain ⟨u, hu⟩ : ∃ u, tkT (inA s o n) x y s.txs = u := ⟨_, rfl⟩
  rw [hu] at Htk
  obtain ⟨r, hr⟩ : ∃ r, selC s o n x y = r := ⟨_, rfl⟩
  have Hr : Hid (r = if o == 35 then (u.2, 0) else (u.1, 0)) := by show _ = _; rw [← hr]; unfold selC; rw [hu]
  rw [hr]
  clear hr
  have Hsel : Hid (∀ (W : World), Below (w.alloc (.cells #[.int .i64 0, .int .u8 0] 139)).heap.size (w.alloc (.cells #[.int .i64 0, .int .u8 0] 139)) W → Blk W w.heap.size #[.int .i64 0, .int .u8 0] 139 ∧ Below w.heap.size w W) := fun W hb => ⟨(Blk.new _ _ _).kept hb, ((Below.refl _ _).alloc (Nat.le_refl _) _).then' (by simp) hb⟩
  clear h he h1 h2 hd hc hn2 ht0 hed hv hxy hR hdg ho hsz hu
  go_enter Tryz.func120, Tryz.ntmps120
  go_wp2_with fail
  refine (digit_any _ _).mono ?_
  rintro e w1 ⟨rfl, rfl⟩
  rw [unhide Hdg]
  go_wp2_with fail
  refine (value_any _ _ hes (unhide Hed)).mono ?_
  rintro e w1 ⟨rfl, _, _, rfl⟩
  rw [unhide Hv]
  go_upto_region 13 with fail
  go_region_held3 (fun w' => w'.cell? ⟨g, 0, none⟩ = some (.pointer (some ⟨pb, 0, none⟩)) ∧ w'.cell? ⟨g, 1, none⟩ = some (.slice (some ⟨gf, 0, none⟩) pd.length capf) ∧ w'.cell? ⟨g, 2, none⟩ = some (.slice (some ⟨gt, 0, none⟩) pd.length capt) ∧ w'.cell? ⟨gf, k, none⟩ = some (.int .i64 x) ∧ w'.cell? ⟨gt, k, none⟩ = some (.int .i64 y)) (first | go_keep | exact ⟨k0, k1, k2, k3, k4⟩) (first | (go_at_call 165; refine (unhide Htk _ (by exact ((Below.refl _ _).alloc (Nat.le_refl _) _).drew)).mono ?_; rintro e w4 ⟨rfl, hb4⟩; have k0 := kept_cell' hb4 (a := ⟨g, 0, none⟩) (v := .pointer (some ⟨pb, 0, none⟩)) (by simp [*]); have k1 := kept_cell' hb4 (a := ⟨g, 1, none⟩) (v := .slice (some ⟨gf, 0, none⟩) pd.length capf) (by simp [*]); have k2 := kept_cell' hb4 (a := ⟨g, 2, none⟩) (v := .slice (some ⟨gt, 0, none⟩) pd.length capt) (by simp [*]); have k3 := kept_cell' hb4 (a := ⟨gf, k, none⟩) (v := .int .i64 x) (by simp [*]); have k4 := kept_cell' hb4 (a := ⟨gt, k, none⟩) (v := .int .i64 y) (by simp [*])))
  have hsel := unhide Hsel w4 hb4.undrew
  have HB := hide hsel.2
  obtain ⟨r0, r1, z0, z1, lr⟩ := two_cells hsel.1
  clear hsel hb4 Hsel Htk
  cases h35 : (o == 35) with
  | true =>
    obtain rfl : r = (u.2, 0) := by have := unhide Hr; rw [h35] at this; exact this
    go_wp2_with fail
    refine bodyPost_ret (v := clV (u.2, 0)) (by simp [results, Tryz.results120, go_sem, clV, r0, r1]) rfl ⟨rfl, ?_⟩
    exact ((unhide HB).setCell (by simp) _).setCell (by simp) _
  | false =>
    obtain rfl : r = (u.1, 0) := by have := unhide Hr; rw [h35] at this; exact this
    go_wp2_with fail
    refine bodyPost_ret (v := clV (u.1, 0)) (by simp [results, Tryz.results120, go_sem, clV, r0, r1]) rfl ⟨rfl, ?_⟩
    exact ((unhide HB).setCell (by simp) _).setCell (by simp) _

theorem tkT_in {s : Bk} (h : BkGood s) (q : Int → Bool) (a b : Int) : inR (tkT q a b s.txs).1 = true ∧ inR (tkT q a b s.txs).2 = true := by
  have h1 := tkT_le q a b s.txs (fun t ht => ⟨(h.tx t ht).2.2.2.2.1, fun l hl => ⟨((h.tx t ht).2.2.2.2.2 l hl).2.2.1, ((h.tx t ht).2.2.2.2.2 l hl).2.2.2⟩⟩)
  have h2 := h.posts
  rw [inR_iff, inR_iff]
  omega
theorem selC_ok {s : Bk} (h : BkGood s) (o n a b : Int) : ClOk (selC s o n a b) := by
  unfold selC
  split
  · exact .inl ⟨rfl, (tkT_in h _ a b).2⟩
  · exact .inl ⟨rfl, (tkT_in h _ a b).1⟩
theorem Grd.good {w : World} {g : Nat} {s : Bk} {pd : List (List UInt8 × List UInt8)} {cells : List (List Cl)} (h : Grd w g s pd cells) : BkGood s := by
  obtain ⟨_, _, _, _, _, _, _, _, h⟩ := h
  obtain ⟨_, _, _, _, _, h⟩ := h.bk
  exact h.good
theorem cell_ok {cells : List (List Cl)} (h : ∀ row ∈ cells, ∀ c ∈ row, ClOk c) (n k : Nat) : ClOk ((cells.getD n []).getD k (0, 0)) := by
  rw [List.getD_eq_getElem?_getD, List.getD_eq_getElem?_getD]
  cases hn : cells[n]? with
  | none => left; exact ⟨rfl, rfl⟩
  | some row =>
    simp only [Option.getD_some]
    cases hk : row[k]? with
    | none => left; exact ⟨rfl, rfl⟩
    | some c => exact h row (List.mem_of_getElem? hn) c (List.mem_of_getElem? hk)
/-- The cell of an operand, as the document has it. -/
theorem gOperand_any (t : ByteArray) (g k : Nat) (s : Bk) (pd : List (List UInt8 × List UInt8)) (cells : List (List Cl)) (w : World) (p : Pt) (ho : Opnd (L t) [p]) (h : Grd w g s pd cells) (hk : k < pd.length) (hn : oldB p.1 = true → p.2.toNat < cells.length) :
    Calls Tryz.prog 120 #[.pointer (some ⟨g, 0, none⟩), .string t, .int .i64 (k : Int)] w fun e w' => e = .returned (clV (opv (gE s pd cells k) p)) ∧ ClOk (opv (gE s pd cells k) p) ∧ Below w.heap.size w w' := by
  have hgood := h.good
  have hok : ∀ row ∈ cells, ∀ c ∈ row, ClOk c := by obtain ⟨_, _, _, _, _, _, _, _, h⟩ := h; exact h.ok
  rcases ho with ⟨h1, h18, hd, he⟩ | ⟨c, ds, he, h1, hd, hs, hp⟩
  · cases he
    refine (gOpnd_num t g k w h1 h18 hd).mono ?_
    rintro e w1 ⟨rfl, hb⟩
    exact ⟨rfl, .inl ⟨rfl, val_in h18 hd⟩, hb⟩
  · cases hp
    have hl : ds.length ≤ 2 := by rcases hs with ⟨_, h⟩ | ⟨_, h⟩ <;> omega
    rcases hs with ⟨hs, _⟩ | ⟨hs, _⟩
    · refine (gOpnd_sel t g k s pd cells w c ds he h1 hl hd hs h hk).mono ?_
      rintro e w1 ⟨rfl, hb⟩
      have e1 : opv (gE s pd cells k) ((c.toNat : Int), val ds) = selC s c.toNat (val ds) ((pdv pd).getD k (0, 0)).1 ((pdv pd).getD k (0, 0)).2 := by
        have n48 := sel_ne hs 48 rfl
        have n36 := sel_ne hs 36 rfl
        have n60 := sel_ne hs 60 rfl
        unfold opv gE opE selC
        simp only [n48, n36, n60, Bool.false_eq_true, if_false]
      rw [e1]
      exact ⟨rfl, selC_ok hgood _ _ _ _, hb⟩
    · have hcc : (c.toNat : Int) = 36 ∨ (c.toNat : Int) = 60 := by simp [oldB] at hs; omega
      have hn' := hn hs
      simp only at hn'
      rcases hcc with hc | hc
      · refine (gOpnd_row t g k s pd cells w c ds he h1 hl hd hc h hk hn').mono ?_
        rintro e w1 ⟨rfl, hb⟩
        have e1 : opv (gE s pd cells k) ((c.toNat : Int), val ds) = (cells.getD (val ds).toNat []).getD k (0, 0) := by
          rw [hc]; rfl
        rw [e1]
        exact ⟨rfl, cell_ok hok _ _, hb⟩
      · cases k with
        | zero =>
          refine (gOpnd_first t g w c ds he h1 hl hd hc).mono ?_
          rintro e w1 ⟨rfl, hb⟩
          have e1 : opv (gE s pd cells 0) ((c.toNat : Int), val ds) = (0, 0) := by
            rw [hc]; rfl
          rw [e1]
          exact ⟨rfl, .inl ⟨rfl, rfl⟩, hb⟩
        | succ k =>
          refine (gOpnd_prev t g k s pd cells w c ds he h1 hl hd hc h (by omega) hn').mono ?_
          rintro e w1 ⟨rfl, hb⟩
          have e1 : opv (gE s pd cells (k + 1)) ((c.toNat : Int), val ds) = (cells.getD (val ds).toNat []).getD k (0, 0) := by
            rw [hc]; rfl
          rw [e1]
          exact ⟨rfl, cell_ok hok _ _, hb⟩

end Go.Proofs.YtdchbenfccofpaaGreatDoor
namespace Go.Proofs.YtdchbenfccofpaaGreatDoor
open Go.RowKit Db

/-- The contract of worth, at depth n. -/
def WorthC (n : Nat) : Prop := ∀ (t : ByteArray) (ps : List Pt) (g k : Nat) (s : Bk) (pd : List (List UInt8 × List UInt8)) (cells : List (List Cl)) (w : World), t.size ≤ 200 → Wf n (L t) ps → Grd w g s pd cells → k < pd.length → (∀ p ∈ ps, oldB p.1 = true → p.2.toNat < cells.length) →
    Calls Tryz.prog 118 #[.pointer (some ⟨g, 0, none⟩), .string t, .int .i64 (k : Int)] w fun e w' => ∃ c : Cl, e = .returned (clV c) ∧ ValR (gE s pd cells k) ps c ∧ ClOk c ∧ Below w.heap.size w w'
theorem clOk_in {c : Cl} (h : ClOk c) : inR c.1 = true := by
  rcases h with h | rfl | rfl
  · exact h.2
  · rfl
  · rfl

set_option maxRecDepth 100000 in
set_option maxHeartbeats 2000000 in
theorem worth_leaf (t : ByteArray) (ps : List Pt) (g k : Nat) (s : Bk) (pd : List (List UInt8 × List UInt8)) (cells : List (List Cl)) (w : World) (hs : t.size ≤ 200) (hcut : cut (L t) = (0, [], L t)) (hop : Opnd (L t) ps) (h : Grd w g s pd cells) (hk : k < pd.length) (hn : ∀ p ∈ ps, oldB p.1 = true → p.2.toNat < cells.length) :
    Calls Tryz.prog 118 #[.pointer (some ⟨g, 0, none⟩), .string t, .int .i64 (k : Int)] w fun e w' => ∃ c : Cl, e = .returned (clV c) ∧ ValR (gE s pd cells k) ps c ∧ ClOk c ∧ Below w.heap.size w w' := by
  obtain ⟨p, rfl, hp⟩ := opnd_opd hop
  have Hc := hide (fun (wx : World) (hb : Below w.heap.size w wx) => gOperand_any t g k s pd cells wx p hop (h.kept hb) hk (hn p (by simp)))
  have Hv := hide (valR_leaf (gE s pd cells k) hp)
  obtain ⟨c, hc⟩ : ∃ c, opv (gE s pd cells k) p = c := ⟨_, rfl⟩
  rw [hc] at Hc Hv
  have Hcut := hide hcut
  clear hcut hop h hn hp hc
  go_enter Tryz.func118, Tryz.ntmps118
  go_wp2_with fail
  refine (cut_any t _ hs).mono ?_
  rintro e w1 ⟨o, l, r, rfl, ⟨hco, hcl, hcr⟩, m, rfl⟩
  rw [unhide Hcut] at hco hcl hcr
  obtain rfl : r = t := L_inj hcr
  subst hco
  clear hcl hcr
  go_wp2_with fail
  refine (unhide Hc _ (by exact ((Below.refl _ _).alloc (Nat.le_refl _) _).drewN m)).mono ?_
  rintro e w2 ⟨rfl, hok, hb⟩
  have Hok := hide hok
  have HB : Hid (Below w.heap.size w w2) := (((Below.refl _ _).alloc (Nat.le_refl _) _).drewN m).then' (by simp) hb
  obtain ⟨r0, r1, z0, z1, lr⟩ := two_cells ((Blk.new w #[.int .i64 0, .int .u8 0] 139).kept hb.undrewN)
  obtain ⟨c1, c2⟩ := c
  unfold clV
  clear hb hok Hc
  go_wp2_with fail
  refine bodyPost_ret (v := clV (c1, c2)) (by simp [results, Tryz.results118, go_sem, clV, r0, r1]) rfl ⟨(c1, c2), rfl, unhide Hv, unhide Hok, ?_⟩
  exact ((unhide HB).setCell (by simp) _).setCell (by simp) _

set_option maxRecDepth 100000 in
set_option maxHeartbeats 2000000 in
theorem worth_par (n : Nat) (ih : WorthC n) (t : ByteArray) (g k : Nat) (s : Bk) (pd : List (List UInt8 × List UInt8)) (cells : List (List Cl)) (w : World) (hs : t.size ≤ 200) (ps : List Pt) (ho : (cut (L t)).1 = 40) (hw : Wf n (cut (L t)).2.2 ps) (h : Grd w g s pd cells) (hk : k < pd.length) (hn : ∀ p ∈ ps, oldB p.1 = true → p.2.toNat < cells.length) :
    Calls Tryz.prog 118 #[.pointer (some ⟨g, 0, none⟩), .string t, .int .i64 (k : Int)] w fun e w' => ∃ c : Cl, e = .returned (clV c) ∧ ValR (gE s pd cells k) ps c ∧ ClOk c ∧ Below w.heap.size w w' := by
  have Hih := hide (fun (wx : World) (r : ByteArray) (hb : Below w.heap.size w wx) (hr : r.size ≤ 200) (hwr : Wf n (L r) ps) => ih r ps g k s pd cells wx hr hwr (h.kept hb) hk hn)
  have Hw := hide hw
  have Ho := hide ho
  obtain ⟨E, hE⟩ : ∃ E, gE s pd cells k = E := ⟨_, rfl⟩
  rw [hE] at Hih ⊢
  clear ih hw ho h hn hE
  go_enter Tryz.func118, Tryz.ntmps118
  go_wp2_with fail
  refine (cut_any t _ hs).mono ?_
  rintro e w1 ⟨o, l, r, rfl, ⟨hco, hcl, hcr⟩, m, rfl⟩
  obtain rfl : (40 : Int) = o := (unhide Ho).symm.trans hco
  have Hr : Hid (Wf n (L r) ps) := by show Wf _ _ _; rw [hcr]; exact unhide Hw
  have hrs : r.size ≤ 200 := Nat.le_trans (size_of_L hcr (cut_le (L t)).2) hs
  clear hco hcl hcr Hw Ho
  go_wp2_with fail
  refine (unhide Hih _ r (by exact ((Below.refl _ _).alloc (Nat.le_refl _) _).drewN m) hrs (unhide Hr)).mono ?_
  rintro e w2 ⟨c, rfl, hv, hok, hb⟩
  have Hok := hide hok
  have Hv := hide hv
  have HB : Hid (Below w.heap.size w w2) := (((Below.refl _ _).alloc (Nat.le_refl _) _).drewN m).then' (by simp) hb
  obtain ⟨r0, r1, z0, z1, lr⟩ := two_cells ((Blk.new w #[.int .i64 0, .int .u8 0] 139).kept hb.undrewN)
  obtain ⟨c1, c2⟩ := c
  unfold clV
  clear hb hok hv Hih
  go_wp2_with fail
  refine bodyPost_ret (v := clV (c1, c2)) (by simp [results, Tryz.results118, go_sem, clV, r0, r1]) rfl ⟨(c1, c2), rfl, unhide Hv, unhide Hok, ?_⟩
  exact ((unhide HB).setCell (by simp) _).setCell (by simp) _

set_option maxRecDepth 100000 in
set_option maxHeartbeats 2000000 in
theorem worth_neg (n : Nat) (ih : WorthC n) (t : ByteArray) (g k : Nat) (s : Bk) (pd : List (List UInt8 × List UInt8)) (cells : List (List Cl)) (w : World) (hs : t.size ≤ 200) (ps : List Pt) (ho : (cut (L t)).1 = 126) (hw : Wf n (cut (L t)).2.2 ps) (h : Grd w g s pd cells) (hk : k < pd.length) (hn : ∀ p ∈ ps, oldB p.1 = true → p.2.toNat < cells.length) :
    Calls Tryz.prog 118 #[.pointer (some ⟨g, 0, none⟩), .string t, .int .i64 (k : Int)] w fun e w' => ∃ c : Cl, e = .returned (clV c) ∧ ValR (gE s pd cells k) (ps ++ [(126, 0)]) c ∧ ClOk c ∧ Below w.heap.size w w' := by
  have Hih := hide (fun (wx : World) (r : ByteArray) (hb : Below w.heap.size w wx) (hr : r.size ≤ 200) (hwr : Wf n (L r) ps) => ih r ps g k s pd cells wx hr hwr (h.kept hb) hk hn)
  have Hw := hide hw
  have Ho := hide ho
  obtain ⟨E, hE⟩ : ∃ E, gE s pd cells k = E := ⟨_, rfl⟩
  rw [hE] at Hih ⊢
  clear ih hw ho h hn hE
  go_enter Tryz.func118, Tryz.ntmps118
  go_wp2_with fail
  refine (cut_any t _ hs).mono ?_
  rintro e w1 ⟨o, l, r, rfl, ⟨hco, hcl, hcr⟩, m, rfl⟩
  obtain rfl : (126 : Int) = o := (unhide Ho).symm.trans hco
  have Hr : Hid (Wf n (L r) ps) := by show Wf _ _ _; rw [hcr]; exact unhide Hw
  have hrs : r.size ≤ 200 := Nat.le_trans (size_of_L hcr (cut_le (L t)).2) hs
  clear hco hcl hcr Hw Ho
  go_wp2_with fail
  refine (unhide Hih _ r (by exact ((Below.refl _ _).alloc (Nat.le_refl _) _).drewN m) hrs (unhide Hr)).mono ?_
  rintro e w2 ⟨c, rfl, hv, hok, hb⟩
  have Hok := hide hok
  have Hv := hide hv
  have HB : Hid (Below w.heap.size w w2) := (((Below.refl _ _).alloc (Nat.le_refl _) _).drewN m).then' (by simp) hb
  have HR := hide ((Blk.new w #[.int .i64 0, .int .u8 0] 139).kept hb.undrewN)
  have hsz := (unhide HB).size
  have Hdn := hide (fun (wx : World) => done_any 45 (0, 0) c wx rfl (clOk_in hok))
  have Hd2 : Hid (ValR E (ps ++ [(126, 0)]) (don 45 (0, 0) c) ∧ ClOk (don 45 (0, 0) c)) := ⟨valR_neg hv, don_ok (.inl ⟨rfl, rfl⟩) hok⟩
  obtain ⟨d, hd⟩ : ∃ d, don 45 (0, 0) c = d := ⟨_, rfl⟩
  rw [hd] at Hdn Hd2
  obtain ⟨c1, c2⟩ := c
  unfold clV at Hdn ⊢
  simp only at Hdn
  clear hb hok hv Hih hd Hv Hok
  go_wp2_with fail
  refine (unhide Hdn _).mono ?_
  rintro e w3 ⟨rfl, hb3⟩
  obtain ⟨d1, d2⟩ := d
  obtain ⟨r0, r1, z0, z1, lr⟩ := two_cells (((unhide HR).alloc (.cells #[.int .i64 c1, .int .u8 c2] 139)).kept hb3)
  have HB3 := hide (((unhide HB).alloc hsz _).then' (by simp; omega) hb3)
  simp only
  clear hb3 Hdn
  go_wp2_with fail
  refine bodyPost_ret (v := clV (d1, d2)) (by simp [results, Tryz.results118, go_sem, clV, r0, r1]) rfl ⟨(d1, d2), rfl, (unhide Hd2).1, (unhide Hd2).2, ?_⟩
  exact ((unhide HB3).setCell (by simp) _).setCell (by simp) _

set_option maxRecDepth 100000 in
set_option maxHeartbeats 2000000 in
theorem worth_bin (n : Nat) (ih : WorthC n) (t : ByteArray) (g k : Nat) (s : Bk) (pd : List (List UInt8 × List UInt8)) (cells : List (List Cl)) (w : World) (hs : t.size ≤ 200) (p q : List Pt) (ho : opB (cut (L t)).1 = true) (hp : Wf n (cut (L t)).2.1 p) (hq : Wf n (cut (L t)).2.2 q) (h : Grd w g s pd cells) (hk : k < pd.length) (hnp : ∀ x ∈ p, oldB x.1 = true → x.2.toNat < cells.length) (hnq : ∀ x ∈ q, oldB x.1 = true → x.2.toNat < cells.length) :
    Calls Tryz.prog 118 #[.pointer (some ⟨g, 0, none⟩), .string t, .int .i64 (k : Int)] w fun e w' => ∃ c : Cl, e = .returned (clV c) ∧ ValR (gE s pd cells k) (p ++ q ++ [((cut (L t)).1, 0)]) c ∧ ClOk c ∧ Below w.heap.size w w' := by
  have Hip := hide (fun (wx : World) (r : ByteArray) (hb : Below w.heap.size w wx) (hr : r.size ≤ 200) (hwr : Wf n (L r) p) => ih r p g k s pd cells wx hr hwr (h.kept hb) hk hnp)
  have Hiq := hide (fun (wx : World) (r : ByteArray) (hb : Below w.heap.size w wx) (hr : r.size ≤ 200) (hwr : Wf n (L r) q) => ih r q g k s pd cells wx hr hwr (h.kept hb) hk hnq)
  have Hp := hide hp
  have Hq := hide hq
  have Ho := hide ho
  obtain ⟨E, hE⟩ : ∃ E, gE s pd cells k = E := ⟨_, rfl⟩
  rw [hE] at Hip Hiq ⊢
  obtain ⟨oo, hoo⟩ : ∃ oo, (cut (L t)).1 = oo := ⟨_, rfl⟩
  rw [hoo]
  have Hoo := hide hoo
  clear ih hp hq ho h hnp hnq hE hoo
  go_enter Tryz.func118, Tryz.ntmps118
  go_wp2_with fail
  refine (cut_any t _ hs).mono ?_
  rintro e w1 ⟨o, l, r, rfl, ⟨hco, hcl, hcr⟩, m, rfl⟩
  have ho := unhide Ho
  rw [hco] at ho
  obtain rfl : oo = o := (unhide Hoo).symm.trans hco
  have Hl : Hid (Wf n (L l) p) := by show Wf _ _ _; rw [hcl]; exact unhide Hp
  have Hr : Hid (Wf n (L r) q) := by show Wf _ _ _; rw [hcr]; exact unhide Hq
  have hls : l.size ≤ 200 := Nat.le_trans (size_of_L hcl (cut_le (L t)).1) hs
  have hrs : r.size ≤ 200 := Nat.le_trans (size_of_L hcr (cut_le (L t)).2) hs
  have n40 := op_ne ho 40 rfl
  have n126 := op_ne ho 126 rfl
  have n0 := op_ne ho 0 rfl
  have Hoq := hide ho
  clear hco hcl hcr Hp Hq Ho ho
  go_wp2_with fail
  refine (unhide Hip _ l (by exact ((Below.refl _ _).alloc (Nat.le_refl _) _).drewN m) hls (unhide Hl)).mono ?_
  rintro e w2 ⟨c, rfl, hv, hok, hb⟩
  have Hok := hide hok
  have Hv := hide hv
  have HB : Hid (Below w.heap.size w w2) := (((Below.refl _ _).alloc (Nat.le_refl _) _).drewN m).then' (by simp) hb
  have HR := hide ((Blk.new w #[.int .i64 0, .int .u8 0] 139).kept hb.undrewN)
  have hsz := (unhide HB).size
  obtain ⟨c1, c2⟩ := c
  unfold clV
  simp only
  clear hb hok hv Hip
  go_wp2_with fail
  refine (unhide Hiq _ r (by exact (unhide HB).alloc hsz _) hrs (unhide Hr)).mono ?_
  rintro e w3 ⟨d, rfl, hv, hok, hb⟩
  have Hok3 := hide hok
  have Hv3 := hide hv
  have HB3 := hide (((unhide HB).alloc hsz _).then' (by simp; omega) hb)
  have HR3 := hide (((unhide HR).alloc (.cells #[.int .i64 c1, .int .u8 c2] 139)).kept hb)
  have hsz3 := (unhide HB3).size
  obtain ⟨x0, x1, _, _, lx⟩ := two_cells ((Blk.new w2 #[.int .i64 c1, .int .u8 c2] 139).kept hb)
  have Hdn := hide (fun (wx : World) => done_any oo (c1, c2) d wx (clOk_in (unhide Hok)) (clOk_in hok))
  have Hd2 : Hid (ValR E (p ++ q ++ [(oo, 0)]) (don oo (c1, c2) d) ∧ ClOk (don oo (c1, c2) d)) := ⟨valR_bin (unhide Hoq) (unhide Hv) hv, don_ok (unhide Hok) hok⟩
  obtain ⟨z, hz⟩ : ∃ z, don oo (c1, c2) d = z := ⟨_, rfl⟩
  rw [hz] at Hdn Hd2
  obtain ⟨d1, d2⟩ := d
  unfold clV at Hdn ⊢
  simp only at Hdn ⊢
  clear hb hok hv Hiq hz Hv Hok Hok3 Hv3
  go_wp2_with fail
  refine (unhide Hdn _).mono ?_
  rintro e w4 ⟨rfl, hb4⟩
  obtain ⟨z1, z2⟩ := z
  obtain ⟨r0, r1, y0, y1, lr⟩ := two_cells (((unhide HR3).alloc (.cells #[.int .i64 d1, .int .u8 d2] 139)).kept hb4)
  have HB4 := hide (((unhide HB3).alloc hsz3 _).then' (by simp; omega) hb4)
  simp only
  clear hb4 Hdn
  go_wp2_with fail
  refine bodyPost_ret (v := clV (z1, z2)) (by simp [results, Tryz.results118, go_sem, clV, r0, r1]) rfl ⟨(z1, z2), rfl, (unhide Hd2).1, (unhide Hd2).2, ?_⟩
  exact ((unhide HB4).setCell (by simp) _).setCell (by simp) _

theorem worth_any (n : Nat) : WorthC n := by
  induction n with
  | zero => intro t ps g k s pd cells w hs hw; exact absurd hw (by simp [Wf])
  | succ n ih =>
    intro t ps g k s pd cells w hs hw h hk hn
    rcases hw with ⟨hc, hop⟩ | ⟨hc, hw⟩ | ⟨hc, p, hw, rfl⟩ | ⟨hc, p, q, hp, hq, rfl⟩
    · exact worth_leaf t ps g k s pd cells w hs hc hop h hk hn
    · exact worth_par n ih t g k s pd cells w hs ps hc hw h hk hn
    · exact worth_neg n ih t g k s pd cells w hs p hc hw h hk (fun x hx => hn x (by simp [hx]))
    · exact worth_bin n ih t g k s pd cells w hs p q hc hp hq h hk (fun x hx => hn x (by simp [hx])) (fun x hx => hn x (by simp [hx]))

end Go.Proofs.YtdchbenfccofpaaGreatDoor
