/- The shape of rows without blanks: how cutting them goes over their pieces. Expressions, terms and factors without blanks: each is cut as the document says. Operands; what reading a factor, a term, an expression comes to. Days, periods, rows of a report: how the document's spots go over them. The rows of a report. The pile: how many it holds; kinds of the program and of the document. Show: the plain form, by a pile of pieces; digits without noughts ahead. Numbers as texts: the library's Itoa, and the document's own. Texts with a sign between each two. Walks of Show: numerals, signs, brackets. Walks of the document's answer: top, trimmed, operand; the plain form, purely. Walks of the document's answer: trimmed, operand. Walks of the document's answer: wrapped; show at an operand and in brackets. Walks of the document's answer: show at an operand and in brackets. -/
import Derived.Test.YtdchbenfccofpaaDoorS01
import Derived.Lib.ItoaNum
import Derived.Lib.ItoaMem
import Derived.Test.YtdchbenfccofpaaDoorShelf
import Derived.Lib.ItoaLen
import Derived.Lib.AppendIntMem
import Derived.Laws.IdiomStrings
import Derived.Deep.LoopGhost
import Derived.Deep.DeepCutAuto
import Derived.Deep.RegionWith
namespace Db

/-- A sign behind which nothing is an operation between two operands. -/
def stt (p : Int) : Prop := digB p = false ∧ ¬ p = 41
def lst (e : List UInt8) : Int := match e.getLast? with | some c => c.toNat | none => -1
def upd (a b : Int) (e : List UInt8) (at_ i : Int) : Int := if fin e a b < 0 then at_ else i + fin e a b

structure ExpS (e : List UInt8) (ps : List Pt) : Prop where
  wf : ∃ n, Wf n e ps
  pos : 0 < e.length
  ends : digB (lst e) = true ∨ lst e = 41
  scan : ∀ (a b p k at_ i : Int) (r : List UInt8), 0 ≤ k → stt p → finGo a b p k at_ i (e ++ r) = finGo a b (lst e) k (if k = 0 then upd a b e at_ i else at_) (i + e.length) r
  chars : ∀ c ∈ e, ¬ c.toNat = 32 ∧ ¬ c.toNat = 44 ∧ ¬ c.toNat = 59 ∧ ¬ c.toNat = 124
  old : ∀ r, oldDig r → oldDig (e ++ r)
  rch : ∀ row r, rch row (e ++ r) = (nameB row ps || rch row r)
  sel : ∀ (q : Int → Bool) r, digB (hd r) = false → strg q (e ++ r) = (selq q ps || strg q r)
  num : ∀ p ∈ ps, 0 ≤ p.2

theorem Wf_mono {n : Nat} : ∀ {e : List UInt8} {ps : List Pt}, Wf n e ps → Wf (n + 1) e ps := by
  induction n with
  | zero => intro e ps h; exact absurd h (by simp [Wf])
  | succ n ih =>
    intro e ps h
    rcases h with h | ⟨h1, h2⟩ | ⟨h1, p, h2, h3⟩ | ⟨h1, p, q, h2, h3, h4⟩
    · exact .inl h
    · exact .inr (.inl ⟨h1, ih h2⟩)
    · exact .inr (.inr (.inl ⟨h1, p, ih h2, h3⟩))
    · exact .inr (.inr (.inr ⟨h1, p, q, ih h2, ih h3, h4⟩))
theorem Wf_add {n : Nat} (m : Nat) {e : List UInt8} {ps : List Pt} (h : Wf n e ps) : Wf (n + m) e ps := by
  induction m with
  | zero => exact h
  | succ m ih => exact Wf_mono ih
theorem Wf_le {n m : Nat} (hm : n ≤ m) {e : List UInt8} {ps : List Pt} (h : Wf n e ps) : Wf m e ps := by
  obtain ⟨k, rfl⟩ := Nat.le.dest hm
  exact Wf_add k h

theorem finGo_ge (a b : Int) (l : List UInt8) : ∀ p k at_ i : Int, 0 ≤ i → -1 ≤ at_ → -1 ≤ finGo a b p k at_ i l := by
  induction l with
  | nil => intro p k at_ i _ h; exact h
  | cons c r ih =>
    intro p k at_ i hi h
    exact ih _ _ _ _ (by omega) (by unfold hit; split <;> omega)
theorem fin_ge (l : List UInt8) (a b : Int) : -1 ≤ fin l a b := finGo_ge a b l _ _ _ _ (by omega) (by omega)
theorem stt_start : stt (-1) := ⟨by decide, by decide⟩
/-- The last operation of a whole text, by its scan. -/
theorem ExpS.fin_of {e : List UInt8} {ps : List Pt} (h : ExpS e ps) (a b p at_ i : Int) (hp : stt p) : finGo a b p 0 at_ i e = upd a b e at_ i := by
  have := h.scan a b p 0 at_ i [] (by omega) hp
  simpa [finGo] using this

theorem lst_append (x : List UInt8) (c : UInt8) (y : List UInt8) (hy : 0 < y.length) : lst (x ++ c :: y) = lst y := by
  unfold lst
  rw [List.getLast?_append, List.getLast?_cons]
  cases h : y.getLast? with
  | none => simp at h; subst h; simp at hy
  | some z => simp
theorem lst_cons (c : UInt8) (y : List UInt8) (hy : 0 < y.length) : lst (c :: y) = lst y := lst_append [] c y hy
theorem lst_snoc (x : List UInt8) (c : UInt8) : lst (x ++ [c]) = c.toNat := by simp [lst]

theorem fin_join {l r : List UInt8} {p q : List Pt} (hl : ExpS l p) (hr : ExpS r q) (o : UInt8) (ho : opB o.toNat = true) (a b : Int) :
    fin (l ++ o :: r) a b = if 0 ≤ fin r a b then (l.length : Int) + 1 + fin r a b else if ((o.toNat : Int) == a || (o.toNat : Int) == b) then (l.length : Int) else fin l a b := by
  have hc := op_c ho
  have hdep : dep 0 (o.toNat : Int) = 0 := by simp [dep, hc.2.1, hc.2.2.1]
  have hbin : binB (lst l) (o.toNat : Int) = true := by
    unfold binB; rw [ho]
    rcases hl.ends with h | h <;> simp [h]
  unfold fin
  rw [hl.scan a b (-1) 0 (-1) 0 (o :: r) (by omega) stt_start]
  simp only [if_true, finGo, hdep]
  rw [hr.fin_of a b _ _ _ ⟨hc.2.2.2.2.1, hc.2.2.1⟩]
  have g := fin_ge r a b
  have g2 := fin_ge l a b
  unfold upd hit
  rw [hbin]
  have e1 : fin l a b = finGo a b (-1) 0 (-1) 0 l := rfl
  have e2 : fin r a b = finGo a b (-1) 0 (-1) 0 r := rfl
  rw [← e1, ← e2]
  by_cases h1 : fin r a b < 0
  · rw [if_pos h1, if_neg (show ¬ 0 ≤ fin r a b by omega)]
    cases h2 : ((o.toNat : Int) == a || (o.toNat : Int) == b)
    · simp only [Bool.and_false, Bool.false_eq_true, if_false]
      split <;> omega
    · simp
  · rw [if_neg h1, if_pos (show 0 ≤ fin r a b by omega)]
    omega

/-- Two expressions with an operation between them: all but how they are cut. -/
theorem scan_join {l r : List UInt8} {p q : List Pt} (hl : ExpS l p) (hr : ExpS r q) (o : UInt8) (ho : opB o.toNat = true)
    (a b p0 k at_ i : Int) (rest : List UInt8) (hk : 0 ≤ k) (hp : stt p0) :
    finGo a b p0 k at_ i ((l ++ o :: r) ++ rest) = finGo a b (lst (l ++ o :: r)) k (if k = 0 then upd a b (l ++ o :: r) at_ i else at_) (i + (l ++ o :: r).length) rest := by
  have hc := op_c ho
  have hdep : dep k (o.toNat : Int) = k := by simp [dep, hc.2.1, hc.2.2.1]
  have hbin : binB (lst l) (o.toNat : Int) = true := by
    unfold binB; rw [ho]
    rcases hl.ends with h | h <;> simp [h]
  have hj := fin_join hl hr o ho a b
  have g := fin_ge r a b
  have g2 := fin_ge l a b
  rw [List.append_assoc, hl.scan a b p0 k at_ i _ hk hp, List.cons_append]
  simp only [finGo, hdep]
  rw [hr.scan a b _ k _ _ rest hk ⟨hc.2.2.2.2.1, hc.2.2.1⟩, lst_append l o r hr.pos]
  have hlen : i + (l.length : Int) + 1 + (r.length : Int) = i + ((l ++ o :: r).length : Int) := by simp; omega
  rw [hlen]
  congr 1
  by_cases h0 : k = 0
  · subst h0
    simp only [if_true]
    unfold hit
    rw [hbin]
    unfold upd
    rw [hj]
    by_cases h1 : fin r a b < 0
    · rw [if_pos h1, if_neg (show ¬ 0 ≤ fin r a b by omega)]
      cases h2 : ((o.toNat : Int) == a || (o.toNat : Int) == b)
      · simp
      · simp; omega
    · rw [if_neg h1, if_pos (show 0 ≤ fin r a b by omega), if_neg (by omega)]
      omega
  · have hk0 : (k == 0) = false := by simpa using h0
    simp [h0, hit, hk0]

end Db
namespace Db

def TrmS (e : List UInt8) (ps : List Pt) : Prop := ExpS e ps ∧ fin e 43 45 < 0
def FacS (e : List UInt8) (ps : List Pt) : Prop := ExpS e ps ∧ fin e 43 45 < 0 ∧ fin e 42 47 < 0
theorem FacS.trm {e : List UInt8} {ps : List Pt} (h : FacS e ps) : TrmS e ps := ⟨h.1, h.2.1⟩

theorem cut_join (l : List UInt8) (o : UInt8) (r : List UInt8) (hl : 0 < l.length) (h : cutAt (l ++ o :: r) = (l.length : Int)) : cut (l ++ o :: r) = ((o.toNat : Int), l, r) := by
  unfold cut
  rw [if_pos (by rw [h]; omega), h]
  simp only [Int.toNat_natCast]
  refine Prod.ext ?_ (Prod.ext ?_ ?_)
  · simp [List.getD]
  · simp
  · simp [List.drop_append]
theorem nameB_append (row : Int) (p q : List Pt) : nameB row (p ++ q) = (nameB row p || nameB row q) := by simp [nameB]
theorem nameB_op (row : Int) (o : Int) (h : oldB o = false) : nameB row [(o, 0)] = false := by simp [nameB, h]

theorem rch_cons_not {row : Int} {c : UInt8} (r : List UInt8) (h : oldB c.toNat = false) : rch row (c :: r) = rch row r := by
  simp [rch, h]
theorem oldDig_cons_not {c : UInt8} {r : List UInt8} (h : oldB c.toNat = false) (hr : oldDig r) : oldDig (c :: r) := ⟨fun hc => (by rw [h] at hc; cases hc), hr⟩

/-- An operation between two. -/
theorem join_shape {l r : List UInt8} {p q : List Pt} (hl : ExpS l p) (hr : ExpS r q) (o : UInt8) (ho : opB o.toNat = true) (hcut : cutAt (l ++ o :: r) = (l.length : Int)) :
    ExpS (l ++ o :: r) (p ++ q ++ [((o.toNat : Int), 0)]) := by
  have hc := op_c ho
  obtain ⟨n1, h1⟩ := hl.wf
  obtain ⟨n2, h2⟩ := hr.wf
  refine ⟨⟨n1 + n2 + 1, ?_⟩, ?_, ?_, ?_, ?_, ?_, ?_, ?_, ?_⟩
  · have e := cut_join l o r hl.pos hcut
    refine .inr (.inr (.inr ⟨by rw [e]; exact ho, p, q, ?_, ?_, by rw [e]⟩))
    · rw [e]; exact Wf_le (by omega) h1
    · rw [e]; exact Wf_le (by omega) h2
  · simp; omega
  · rw [lst_append l o r hr.pos]; exact hr.ends
  · intro a b p0 k at_ i rest hk hp
    exact scan_join hl hr o ho a b p0 k at_ i rest hk hp
  · intro c hcm
    rw [List.mem_append, List.mem_cons] at hcm
    rcases hcm with h | rfl | h
    · exact hl.chars c h
    · simp [opB] at ho; omega
    · exact hr.chars c h
  · intro rest hrest
    rw [List.append_assoc, List.cons_append]
    exact hl.old _ (oldDig_cons_not hc.2.2.2.2.2.2 (hr.old _ hrest))
  · intro row rest
    rw [List.append_assoc, List.cons_append, hl.rch, rch_cons_not _ hc.2.2.2.2.2.2, hr.rch, nameB_append, nameB_append, nameB_op _ _ hc.2.2.2.2.2.2]
    simp [Bool.or_assoc]
  · intro q rest hrest
    rw [List.append_assoc, List.cons_append, hl.sel _ _ (by simp only [hd]; exact hc.2.2.2.2.1), strg_cons_not _ hc.2.2.2.2.2.1, hr.sel _ _ hrest, selq_append, selq_append, selq_op _ _ hc.2.2.2.2.2.1]
    simp [Bool.or_assoc]
  · intro x hx
    simp at hx
    rcases hx with h | h | rfl
    · exact hl.num x h
    · exact hr.num x h
    · simp
theorem ExpS_add {l r : List UInt8} {p q : List Pt} (hl : ExpS l p) (hr : TrmS r q) (o : UInt8) (ho : (o.toNat : Int) = 43 ∨ (o.toNat : Int) = 45) : ExpS (l ++ o :: r) (p ++ q ++ [((o.toNat : Int), 0)]) := by
  have hop : opB o.toNat = true := by rcases ho with h | h <;> rw [h] <;> rfl
  refine join_shape hl hr.1 o hop ?_
  have hj := fin_join hl hr.1 o hop 43 45
  rw [if_neg (by have := hr.2; omega), if_pos (by rcases ho with h | h <;> rw [h] <;> rfl)] at hj
  unfold cutAt
  rw [hj, if_neg (by omega)]
theorem TrmS_mul {l r : List UInt8} {p q : List Pt} (hl : TrmS l p) (hr : FacS r q) (o : UInt8) (ho : (o.toNat : Int) = 42 ∨ (o.toNat : Int) = 47) : TrmS (l ++ o :: r) (p ++ q ++ [((o.toNat : Int), 0)]) := by
  have hop : opB o.toNat = true := by rcases ho with h | h <;> rw [h] <;> rfl
  have hj1 := fin_join hl.1 hr.1 o hop 43 45
  rw [if_neg (by have := hr.2.1; omega), if_neg (by rcases ho with h | h <;> rw [h] <;> decide)] at hj1
  have hj2 := fin_join hl.1 hr.1 o hop 42 47
  rw [if_neg (by have := hr.2.2; omega), if_pos (by rcases ho with h | h <;> rw [h] <;> rfl)] at hj2
  refine ⟨join_shape hl.1 hr.1 o hop ?_, by rw [hj1]; exact hl.2⟩
  unfold cutAt
  rw [hj1, hj2, if_pos hl.2]

/-- A - ahead. -/
theorem neg_fin {e : List UInt8} {ps : List Pt} (he : ExpS e ps) (c : UInt8) (hc : (c.toNat : Int) = 45) (a b p k at_ i : Int) (r : List UInt8) (hk : 0 ≤ k) (hp : stt p) :
    finGo a b p k at_ i (c :: e ++ r) = finGo a b (lst e) k (if k = 0 then upd a b e at_ (i + 1) else at_) (i + 1 + e.length) r := by
  have h1 : dep k (c.toNat : Int) = k := by rw [hc]; simp [dep]
  have h2 : hit a b p k at_ i (c.toNat : Int) = at_ := by
    unfold hit binB
    rw [hp.1]
    have : (p == 41) = false := by simpa using hp.2
    simp [this]
  rw [List.cons_append]
  simp only [finGo, h1, h2]
  rw [he.scan a b _ k at_ (i + 1) r hk (by rw [hc]; exact ⟨rfl, by decide⟩)]
theorem neg_fin0 {e : List UInt8} {ps : List Pt} (he : ExpS e ps) (c : UInt8) (hc : (c.toNat : Int) = 45) (a b : Int) : fin (c :: e) a b = if fin e a b < 0 then -1 else 1 + fin e a b := by
  have := neg_fin he c hc a b (-1) 0 (-1) 0 [] (by omega) stt_start
  have e2 : finGo a b (-1) 0 (-1) 0 (c :: e ++ []) = fin (c :: e) a b := by rw [List.append_nil]; rfl
  rw [← e2, this, if_pos rfl]
  show upd a b e (-1) (0 + 1) = _
  unfold upd
  split <;> omega
theorem FacS_neg {e : List UInt8} {ps : List Pt} (h : FacS e ps) (c : UInt8) (hc : (c.toNat : Int) = 45) : FacS (c :: e) (ps ++ [(126, 0)]) := by
  have he := h.1
  have f1 := neg_fin0 he c hc 43 45
  have f2 := neg_fin0 he c hc 42 47
  rw [if_pos h.2.1] at f1
  rw [if_pos h.2.2] at f2
  obtain ⟨n, hn⟩ := he.wf
  have hpos := he.pos
  have hold : oldB c.toNat = false := by rw [hc]; rfl
  have hcut : cut (c :: e) = (126, [], e) := by
    unfold cut
    have hca : cutAt (c :: e) = -1 := by unfold cutAt; rw [f1, if_pos (by omega), f2]
    rw [hca, if_neg (by omega), if_pos ⟨by simp; omega, by simp [hc]⟩]
    rfl
  refine ⟨⟨⟨n + 1, .inr (.inr (.inl ⟨by rw [hcut], ps, by rw [hcut]; exact hn, rfl⟩))⟩, by simp, ?_, ?_, ?_, ?_, ?_, ?_, ?_⟩, by rw [f1]; omega, by rw [f2]; omega⟩
  · rw [lst_cons c e hpos]; exact he.ends
  · intro a b p k at_ i r hk hp
    rw [neg_fin he c hc a b p k at_ i r hk hp, lst_cons c e hpos]
    have hl : i + 1 + (e.length : Int) = i + ((c :: e).length : Int) := by simp; omega
    rw [hl]
    congr 1
    by_cases h0 : k = 0
    · rw [if_pos h0, if_pos h0]
      unfold upd
      rw [neg_fin0 he c hc a b]
      have g := fin_ge e a b
      by_cases h1 : fin e a b < 0
      · rw [if_pos h1, if_pos h1, if_pos (by omega)]
      · rw [if_neg h1, if_neg h1, if_neg (by omega)]; omega
    · rw [if_neg h0, if_neg h0]
  · intro x hx
    rw [List.mem_cons] at hx
    rcases hx with rfl | hx
    · omega
    · exact he.chars x hx
  · intro r hr
    rw [List.cons_append]
    exact oldDig_cons_not hold (he.old r hr)
  · intro row r
    rw [List.cons_append, rch_cons_not _ hold, he.rch, nameB_append]
    simp [nameB, oldB]
  · intro q r hr
    rw [List.cons_append, strg_cons_not _ (by rw [hc]; rfl), he.sel _ _ hr, selq_append]
    simp [selq, selB]
  · intro x hx
    simp at hx
    rcases hx with hx | rfl
    · exact he.num x hx
    · simp

/-- Brackets. -/
theorem par_fin {e : List UInt8} {ps : List Pt} (he : ExpS e ps) (c d : UInt8) (hc : (c.toNat : Int) = 40) (hd : (d.toNat : Int) = 41) (a b p k at_ i : Int) (r : List UInt8) (hk : 0 ≤ k) :
    finGo a b p k at_ i ((c :: (e ++ [d])) ++ r) = finGo a b 41 k at_ (i + ((c :: (e ++ [d])).length : Int)) r := by
  have h1 : dep k (c.toNat : Int) = k + 1 := by rw [hc]; simp [dep]
  have h2 : ∀ p q j, hit a b p q at_ j (c.toNat : Int) = at_ := by intro p q j; rw [hc]; simp [hit, binB, opB]
  have h3 : dep (k + 1) (d.toNat : Int) = k := by rw [hd]; simp [dep]
  have h4 : ∀ p q j, hit a b p q at_ j (d.toNat : Int) = at_ := by intro p q j; rw [hd]; simp [hit, binB, opB]
  rw [List.cons_append, List.append_assoc]
  simp only [finGo, h1, h2]
  rw [he.scan a b _ (k + 1) at_ (i + 1) _ (by omega) (by rw [hc]; exact ⟨rfl, by decide⟩), if_neg (by omega)]
  rw [List.cons_append, List.nil_append]
  simp only [finGo, h3, h4]
  rw [hd]
  congr 1
  simp; omega
theorem FacS_par {e : List UInt8} {ps : List Pt} (he : ExpS e ps) (c d : UInt8) (hc : (c.toNat : Int) = 40) (hd : (d.toNat : Int) = 41) : FacS (c :: (e ++ [d])) ps := by
  have f : ∀ a b, fin (c :: (e ++ [d])) a b = -1 := by
    intro a b
    have := par_fin he c d hc hd a b (-1) 0 (-1) 0 [] (by omega)
    simp only [List.append_nil, finGo] at this
    exact this
  obtain ⟨n, hn⟩ := he.wf
  have hpos := he.pos
  have hold : oldB c.toNat = false := by rw [hc]; rfl
  have hold2 : oldB d.toNat = false := by rw [hd]; rfl
  have hcut : cut (c :: (e ++ [d])) = (40, [], e) := by
    unfold cut
    have hca : cutAt (c :: (e ++ [d])) = -1 := by unfold cutAt; rw [f, if_pos (by omega), f]
    rw [hca, if_neg (by omega), if_neg (by rintro ⟨_, h⟩; simp at h; omega), if_pos ⟨by simp; omega, by simp [hc]⟩]
    simp
  have hlst : lst (c :: (e ++ [d])) = 41 := by
    rw [← hd]; exact lst_snoc (c :: e) d
  refine ⟨⟨⟨n + 1, .inr (.inl ⟨by rw [hcut], by rw [hcut]; exact hn⟩)⟩, by simp, .inr hlst, ?_, ?_, ?_, ?_, ?_, he.num⟩, by rw [f]; omega, by rw [f]; omega⟩
  · intro a b p k at_ i r hk hp
    rw [par_fin he c d hc hd a b p k at_ i r hk, hlst]
    congr 1
    unfold upd
    rw [f, if_pos (show (-1 : Int) < 0 by omega)]
    split <;> rfl
  · intro x hx
    rw [List.mem_cons, List.mem_append, List.mem_singleton] at hx
    rcases hx with rfl | hx | rfl
    · omega
    · exact he.chars x hx
    · omega
  · intro r hr
    rw [List.cons_append, List.append_assoc]
    exact oldDig_cons_not hold (he.old _ (oldDig_cons_not hold2 hr))
  · intro row r
    rw [List.cons_append, List.append_assoc, rch_cons_not _ hold, he.rch, List.cons_append, rch_cons_not _ hold2]
    rfl
  · intro q r hr
    rw [List.cons_append, List.append_assoc, strg_cons_not _ (by rw [hc]; rfl), he.sel _ _ (by show digB (d.toNat : Int) = false; rw [hd]; rfl), List.cons_append, strg_cons_not _ (by rw [hd]; rfl)]
    rfl

end Db
namespace Db

theorem valGo_pos (l : List UInt8) (h : ∀ c ∈ l, digB c.toNat = true) : ∀ n : Int, 0 ≤ n → 0 ≤ valGo n l := by
  induction l with
  | nil => intro n hn; exact hn
  | cons c r ih =>
    intro n hn
    have := h c (by simp)
    simp [digB] at this
    exact ih (fun x hx => h x (by simp [hx])) _ (by omega)
theorem val_pos (l : List UInt8) (h : ∀ c ∈ l, digB c.toNat = true) : 0 ≤ val l := valGo_pos l h 0 (by omega)

/-- A text without operations and brackets. -/
def Flat (e : List UInt8) : Prop := ∀ c ∈ e, opB c.toNat = false ∧ ¬ (c.toNat : Int) = 40 ∧ ¬ (c.toNat : Int) = 41
theorem flat_fin (a b : Int) (e : List UInt8) (h : Flat e) : ∀ (p k at_ i : Int) (r : List UInt8), finGo a b p k at_ i (e ++ r) = finGo a b (if e = [] then p else lst e) k at_ (i + e.length) r := by
  induction e with
  | nil => intro p k at_ i r; simp
  | cons c t ih =>
    intro p k at_ i r
    have hc := h c (by simp)
    have h1 : dep k (c.toNat : Int) = k := by simp [dep, hc.2.1, hc.2.2]
    have h2 : hit a b p k at_ i (c.toNat : Int) = at_ := by simp [hit, binB, hc.1]
    rw [List.cons_append]
    simp only [finGo, h1, h2]
    rw [ih (fun x hx => h x (by simp [hx]))]
    have hl : i + 1 + (t.length : Int) = i + ((c :: t).length : Int) := by simp; omega
    rw [hl]
    congr 1
    cases t with
    | nil => simp [lst]
    | cons x y => simp [lst]
theorem dig_flat {c : Int} (h : digB c = true) : opB c = false ∧ ¬ c = 40 ∧ ¬ c = 41 := by simp [digB] at h; simp [opB]; omega
theorem sel_flat {c : Int} (h : selB c = true) : opB c = false ∧ ¬ c = 40 ∧ ¬ c = 41 := by simp [selB] at h; rcases h with (rfl | rfl) | rfl <;> simp [opB]
theorem old_flat {c : Int} (h : oldB c = true) : opB c = false ∧ ¬ c = 40 ∧ ¬ c = 41 := by simp [oldB] at h; rcases h with rfl | rfl <;> simp [opB]
theorem dig_old {c : Int} (h : digB c = true) : oldB c = false := by simp [digB] at h; simp [oldB]; omega
theorem sel_old {c : Int} (h : selB c = true) : oldB c = false := by simp [selB] at h; rcases h with (rfl | rfl) | rfl <;> simp [oldB]
theorem digs_old (ds : List UInt8) (h : ∀ c ∈ ds, digB c.toNat = true) (r : List UInt8) (hr : oldDig r) : oldDig (ds ++ r) := by
  induction ds with
  | nil => exact hr
  | cons c t ih => exact oldDig_cons_not (dig_old (h c (by simp))) (ih (fun x hx => h x (by simp [hx])))
theorem digs_rch (row : Int) (ds : List UInt8) (h : ∀ c ∈ ds, digB c.toNat = true) (r : List UInt8) : rch row (ds ++ r) = rch row r := by
  induction ds with
  | nil => rfl
  | cons c t ih => rw [List.cons_append, rch_cons_not _ (dig_old (h c (by simp))), ih (fun x hx => h x (by simp [hx]))]
theorem dig_sel {c : Int} (h : digB c = true) : selB c = false := by simp [digB] at h; simp [selB]; omega
theorem digs_strg (q : Int → Bool) (ds : List UInt8) (h : ∀ c ∈ ds, digB c.toNat = true) (r : List UInt8) : strg q (ds ++ r) = strg q r := by
  induction ds with
  | nil => rfl
  | cons c t ih => rw [List.cons_append, strg_cons_not _ (dig_sel (h c (by simp))), ih (fun x hx => h x (by simp [hx]))]
theorem dg2_all (ds : List UInt8) (h : ∀ c ∈ ds, digB c.toNat = true) (h1 : 1 ≤ ds.length) (h2 : ds.length ≤ 2) (r : List UInt8) (hr : digB (hd r) = false) : dg2 (ds ++ r) = ds := by
  match ds, h1, h2 with
  | [x], _, _ =>
    have hx := h x (by simp)
    unfold dg2
    cases r with
    | nil => simp [hx]
    | cons y t => simp only [hd] at hr; simp [hx, hr]
  | [x, y], _, _ =>
    have hx := h x (by simp)
    have hy := h y (by simp)
    unfold dg2
    simp [hx, hy]
  | _ :: _ :: _ :: _, _, h2 => simp at h2
theorem lst_mem (e : List UInt8) (h : 0 < e.length) : ∃ c ∈ e, lst e = c.toNat := by
  cases hl : e.getLast? with
  | none => simp at hl; subst hl; simp at h
  | some c => exact ⟨c, List.mem_of_getLast? hl, by simp [lst, hl]⟩

/-- An operand is a factor. -/
theorem opnd_shape {e : List UInt8} {ps : List Pt} (h : Opnd e ps) : FacS e ps := by
  have hpos : 0 < e.length := by
    rcases h with ⟨h1, _⟩ | ⟨c, ds, rfl, _⟩
    · omega
    · simp
  have hflat : Flat e := by
    rcases h with ⟨_, _, hd, _⟩ | ⟨c, ds, rfl, _, hd, hs, _⟩
    · exact fun c hc => dig_flat (hd c hc)
    · intro x hx
      rw [List.mem_cons] at hx
      rcases hx with rfl | hx
      · rcases hs with ⟨hs, _⟩ | ⟨hs, _⟩
        · exact sel_flat hs
        · exact old_flat hs
      · exact dig_flat (hd x hx)
  have hfin : ∀ a b, fin e a b = -1 := by
    intro a b
    have := flat_fin a b e hflat (-1) 0 (-1) 0 []
    rw [List.append_nil] at this
    exact this
  have hlast : digB (lst e) = true := by
    rcases h with ⟨h1, _, hd, _⟩ | ⟨c, ds, rfl, h1, hd, hs, _⟩
    · obtain ⟨x, hx, he⟩ := lst_mem e hpos
      rw [he]; exact hd x hx
    · rw [lst_cons c ds (by omega)]
      obtain ⟨x, hx, he⟩ := lst_mem ds (by omega)
      rw [he]; exact hd x hx
  have hhead : ∀ c : Int, ((e.getD 0 0).toNat : Int) = c → ¬ c = 45 ∧ ¬ c = 40 := by
    intro c hc
    match e, hpos, hflat with
    | x :: t, _, hfl =>
      have hx := hfl x (by simp)
      simp at hc
      subst hc
      exact ⟨by intro h; rw [h] at hx; simp [opB] at hx, hx.2.1⟩
  have hcut : cut e = (0, [], e) := by
    unfold cut
    have hca : cutAt e = -1 := by unfold cutAt; rw [hfin, if_pos (by omega), hfin]
    rw [hca, if_neg (by omega), if_neg (fun hx => (hhead _ rfl).1 hx.2), if_neg (fun hx => (hhead _ rfl).2 hx.2)]
  refine ⟨⟨⟨1, .inl ⟨hcut, h⟩⟩, hpos, .inl hlast, ?_, ?_, ?_, ?_, ?_, ?_⟩, by rw [hfin]; omega, by rw [hfin]; omega⟩
  · intro a b p k at_ i r hk hp
    rw [flat_fin a b e hflat]
    have : ¬ e = [] := by intro h0; subst h0; simp at hpos
    rw [if_neg this]
    congr 1
    unfold upd
    rw [hfin, if_pos (show (-1 : Int) < 0 by omega)]
    split <;> rfl
  · intro c hc
    rcases h with ⟨_, _, hd, _⟩ | ⟨x, ds, rfl, _, hd, hs, _⟩
    · have := hd c hc; simp [digB] at this; omega
    · rw [List.mem_cons] at hc
      rcases hc with rfl | hc
      · rcases hs with ⟨hs, _⟩ | ⟨hs, _⟩
        · simp [selB] at hs; omega
        · simp [oldB] at hs; omega
      · have := hd c hc; simp [digB] at this; omega
  · intro r hr
    rcases h with ⟨_, _, hd, _⟩ | ⟨x, ds, rfl, h1, hd, hs, _⟩
    · exact digs_old e hd r hr
    · refine ⟨fun _ => ?_, digs_old ds hd r hr⟩
      match ds, h1, hd with
      | y :: t, _, hd => exact hd y (by simp)
  · intro row r
    rcases h with ⟨_, _, hd, rfl⟩ | ⟨x, ds, rfl, h1, hd, hs, rfl⟩
    · rw [digs_rch row e hd r]; simp [nameB, oldB]
    · rcases hs with ⟨hs, _⟩ | ⟨hs, hl⟩
      · rw [List.cons_append, rch_cons_not _ (sel_old hs), digs_rch row ds hd r]
        simp [nameB, sel_old hs]
      · obtain ⟨y, rfl⟩ := List.length_eq_one_iff.1 hl
        rw [List.cons_append, List.cons_append, List.nil_append]
        show ((oldB x.toNat && decide (row ≤ (y.toNat : Int) - 48)) || rch row (y :: r)) = _
        rw [rch_cons_not _ (dig_old (hd y (by simp)))]
        simp [nameB, val, valGo, hs]
  · intro q r hr
    rcases h with ⟨_, _, hd, rfl⟩ | ⟨x, ds, rfl, h1, hd, hs, rfl⟩
    · rw [digs_strg q e hd r]; simp [selq, selB]
    · rcases hs with ⟨hs, hl⟩ | ⟨hs, hl⟩
      · rw [List.cons_append]
        show ((selB x.toNat && q (val (dg2 (ds ++ r)))) || strg q (ds ++ r)) = _
        rw [digs_strg q ds hd r, dg2_all ds hd h1 hl r hr]
        simp [selq, hs]
      · have hns : selB (x.toNat : Int) = false := (old_c hs).2.2.2.2
        rw [List.cons_append, strg_cons_not _ hns, digs_strg q ds hd r]
        simp [selq, hns]
  · intro p hp
    rcases h with ⟨_, _, hd, rfl⟩ | ⟨x, ds, rfl, h1, hd, hs, rfl⟩
    · simp at hp; subst hp; exact val_pos e hd
    · simp at hp; subst hp; exact val_pos ds hd

/-- Reading a factor (a term, an expression) off l: l' is left, ps are its parts; or it stops ahead of l'. S: the shape of what was read; H: what is known of what is left. -/
def Got (S : List UInt8 → List Pt → Prop) (H : List UInt8 → Prop) (l : List UInt8) (ok : Bool) (l' : List UInt8) (ps : List Pt) : Prop :=
  ∃ x, l = x ++ l' ∧ (ok = true → (∀ d k i : Int, 0 ≤ k → plc 6 d k i l = plc 11 0 k (i + x.length) l') ∧ S (bare x) ps ∧ H l') ∧ (ok = false → ∀ d k i : Int, 0 ≤ k → plc 6 d k i l = i + x.length)
def Fac := Got FacS (fun _ => True)
/-- Neither a blank nor one of these operations is left. -/
def Trm := Got TrmS (fun l => ¬ hd l = 32 ∧ ¬ hd l = 42 ∧ ¬ hd l = 47)
def Exp := Got ExpS (fun l => ¬ hd l = 32 ∧ opB (hd l) = false)

theorem fac_blanks {x l l' : List UInt8} {ok : Bool} {ps : List Pt} {S : List UInt8 → List Pt → Prop} {H : List UInt8 → Prop} (hx : Blanks x) (h : Got S H l ok l' ps) : Got S H (x ++ l) ok l' ps := by
  obtain ⟨y, rfl, h1, h2⟩ := h
  refine ⟨x ++ y, by simp, fun ho => ⟨fun d k i hk => ?_, ?_, (h1 ho).2.2⟩, fun ho d k i hk => ?_⟩
  · rw [plc_skip 6 (by simp) x hx, (h1 ho).1 d k _ hk]
    congr 1
    simp; omega
  · rw [bare_append, bare_blanks hx]; exact (h1 ho).2.1
  · rw [plc_skip 6 (by simp) x hx, h2 ho d k _ hk]
    simp; omega
theorem fac_opnd {e l' : List UInt8} {ps : List Pt} (h : Opnd e ps) (he : ∀ d k i : Int, plc 6 d k i (e ++ l') = plc 11 0 k (i + e.length) l') : Fac (e ++ l') true l' ps := by
  have hs := opnd_shape h
  refine ⟨e, rfl, fun _ => ⟨fun d k i _ => he d k i, ?_, trivial⟩, fun h0 => by cases h0⟩
  have : bare e = e := by
    unfold bare; rw [List.filter_eq_self]; intro c hc
    have := (hs.1.chars c hc).1
    simpa using this
  rw [this]; exact hs
theorem bare_cons {c : UInt8} (h : ¬ c.toNat = 32) (l : List UInt8) : bare (c :: l) = c :: bare l := by
  rw [show c :: l = [c] ++ l from rfl, bare_append, bare_other h]; rfl
theorem fac_neg {c : UInt8} (hc : (c.toNat : Int) = 45) {l l' : List UInt8} {ok : Bool} {ps : List Pt} (h : Fac l ok l' ps) : Fac (c :: l) ok l' (ps ++ [(126, 0)]) := by
  obtain ⟨y, rfl, h1, h2⟩ := h
  refine ⟨c :: y, rfl, fun ho => ⟨fun d k i hk => ?_, ?_, trivial⟩, fun ho d k i hk => ?_⟩
  · rw [plc_neg hc, (h1 ho).1 d k _ hk]
    congr 1
    simp; omega
  · rw [bare_cons (by omega)]; exact FacS_neg (h1 ho).2.1 c hc
  · rw [plc_neg hc, h2 ho d k _ hk]
    simp; omega
/-- A bracket that is opened, an expression: it fails there. -/
theorem fac_par_no {c : UInt8} (hc : (c.toNat : Int) = 40) {l l' : List UInt8} {ps ps' : List Pt} (h : Exp l false l' ps) : Fac (c :: l) false l' ps' := by
  obtain ⟨y, rfl, h1, h2⟩ := h
  refine ⟨c :: y, rfl, (fun h0 => by cases h0), fun _ d k i hk => ?_⟩
  rw [plc_par hc, h2 rfl d (k + 1) _ (by omega)]
  simp; omega
theorem fac_par_open {c : UInt8} (hc : (c.toNat : Int) = 40) {l l' : List UInt8} {ps ps' : List Pt} (h : Exp l true l' ps) (h41 : ¬ hd l' = 41) : Fac (c :: l) false l' ps' := by
  obtain ⟨y, rfl, h1, h2⟩ := h
  have h3 := (h1 rfl).2.2
  refine ⟨c :: y, rfl, (fun h0 => by cases h0), fun _ d k i hk => ?_⟩
  rw [plc_par hc, (h1 rfl).1 d (k + 1) _ (by omega), plc_fail11 l' h3.1 h3.2 h41 _ _ _ hk]
  simp; omega
theorem fac_par_yes {c e : UInt8} (hc : (c.toNat : Int) = 40) (he : (e.toNat : Int) = 41) {l l' : List UInt8} {ps : List Pt} (h : Exp l true (e :: l') ps) : Fac (c :: l) true l' ps := by
  obtain ⟨y, rfl, h1, h2⟩ := h
  refine ⟨c :: (y ++ [e]), by simp, fun _ => ⟨fun d k i hk => ?_, ?_, trivial⟩, fun h0 => by cases h0⟩
  · rw [plc_par hc, (h1 rfl).1 d (k + 1) _ (by omega), plc_shut he _ _ _ hk]
    congr 1
    simp; omega
  · rw [bare_cons (by omega), bare_append, bare_other (by omega)]; exact FacS_par (h1 rfl).2.1 c e hc he
/-- From a factor to a term: blanks behind it are passed over. -/
theorem trm_fac {l x l' : List UInt8} {ps : List Pt} (h : Fac l true (x ++ l') ps) (hx : Blanks x) : Got TrmS (fun _ => True) l true l' ps := by
  obtain ⟨y, rfl, h1, h2⟩ := h
  refine ⟨y ++ x, by simp, fun _ => ⟨fun d k i hk => ?_, ?_, trivial⟩, fun h0 => by cases h0⟩
  · rw [(h1 rfl).1 d k _ hk, plc_skip 11 (by simp) x hx]
    congr 1
    simp; omega
  · rw [bare_append, bare_blanks hx, List.append_nil]; exact (h1 rfl).2.1.trm
theorem trm_no {l l' : List UInt8} {ps ps' : List Pt} {S : List UInt8 → List Pt → Prop} {H : List UInt8 → Prop} {S' : List UInt8 → List Pt → Prop} {H' : List UInt8 → Prop} (h : Got S H l false l' ps) : Got S' H' l false l' ps' := by
  obtain ⟨y, rfl, h1, h2⟩ := h
  exact ⟨y, rfl, (fun h0 => by cases h0), h2⟩
theorem trm_end {S : List UInt8 → List Pt → Prop} {H : List UInt8 → Prop} {l l' : List UInt8} {ps : List Pt} (h : Got S (fun _ => True) l true l' ps) (hh : H l') : Got S H l true l' ps := by
  obtain ⟨y, rfl, h1, h2⟩ := h
  exact ⟨y, rfl, fun _ => ⟨(h1 rfl).1, (h1 rfl).2.1, hh⟩, h2⟩
/-- A term, * or /, a factor. -/
theorem trm_mul {o : UInt8} (ho : (o.toNat : Int) = 42 ∨ (o.toNat : Int) = 47) {l r x l' : List UInt8} {p q : List Pt} (h : Got TrmS (fun _ => True) l true (o :: r) p) (hf : Fac r true (x ++ l') q) (hx : Blanks x) : Got TrmS (fun _ => True) l true l' (p ++ q ++ [((o.toNat : Int), 0)]) := by
  obtain ⟨y, rfl, h1, h2⟩ := h
  obtain ⟨z, rfl, g1, g2⟩ := hf
  have hop : opB o.toNat = true := by rcases ho with h | h <;> rw [h] <;> rfl
  refine ⟨y ++ o :: (z ++ x), by simp, fun _ => ⟨fun d k i hk => ?_, ?_, trivial⟩, fun h0 => by cases h0⟩
  · rw [(h1 rfl).1 d k _ hk, plc_op hop, (g1 rfl).1 _ k _ hk, plc_skip 11 (by simp) x hx]
    congr 1
    simp; omega
  · rw [bare_append, bare_cons (by omega), bare_append, bare_blanks hx, List.append_nil]; exact TrmS_mul (h1 rfl).2.1 (g1 rfl).2.1 o ho
theorem op_no {o : UInt8} (hop : opB o.toNat = true) {S : List UInt8 → List Pt → Prop} {H : List UInt8 → Prop} {S' : List UInt8 → List Pt → Prop} {H' : List UInt8 → Prop} {S2 : List UInt8 → List Pt → Prop} {H2 : List UInt8 → Prop} {l r l' : List UInt8} {p q p' : List Pt} (h : Got S H l true (o :: r) p) (hf : Got S' H' r false l' q) : Got S2 H2 l false l' p' := by
  obtain ⟨y, rfl, h1, h2⟩ := h
  obtain ⟨z, rfl, g1, g2⟩ := hf
  refine ⟨y ++ o :: z, by simp, (fun h0 => by cases h0), fun _ d k i hk => ?_⟩
  rw [(h1 rfl).1 d k _ hk, plc_op hop, g2 rfl _ k _ hk]
  simp; omega
/-- An expression, + or -, a term. -/
theorem exp_add {o : UInt8} (ho : (o.toNat : Int) = 43 ∨ (o.toNat : Int) = 45) {l r l' : List UInt8} {p q : List Pt} (h : Got ExpS (fun _ => True) l true (o :: r) p) (hf : Trm r true l' q) : Got ExpS (fun l => ¬ hd l = 32 ∧ ¬ hd l = 42 ∧ ¬ hd l = 47) l true l' (p ++ q ++ [((o.toNat : Int), 0)]) := by
  obtain ⟨y, rfl, h1, h2⟩ := h
  obtain ⟨z, rfl, g1, g2⟩ := hf
  have hop : opB o.toNat = true := by rcases ho with h | h <;> rw [h] <;> rfl
  refine ⟨y ++ o :: z, by simp, fun _ => ⟨fun d k i hk => ?_, ?_, (g1 rfl).2.2⟩, fun h0 => by cases h0⟩
  · rw [(h1 rfl).1 d k _ hk, plc_op hop, (g1 rfl).1 _ k _ hk]
    congr 1
    simp; omega
  · rw [bare_append, bare_cons (by omega)]; exact ExpS_add (h1 rfl).2.1 (g1 rfl).2.1 o ho
theorem exp_trm {l l' : List UInt8} {ps : List Pt} (h : Trm l true l' ps) : Got ExpS (fun l => ¬ hd l = 32 ∧ ¬ hd l = 42 ∧ ¬ hd l = 47) l true l' ps := by
  obtain ⟨y, rfl, h1, h2⟩ := h
  exact ⟨y, rfl, fun _ => ⟨(h1 rfl).1, (h1 rfl).2.1.1, (h1 rfl).2.2⟩, h2⟩
theorem got_any {S : List UInt8 → List Pt → Prop} {H : List UInt8 → Prop} {l l' : List UInt8} {ok : Bool} {ps : List Pt} (h : Got S H l ok l' ps) : Got S (fun _ => True) l ok l' ps := by
  obtain ⟨y, rfl, h1, h2⟩ := h
  exact ⟨y, rfl, fun ho => ⟨(h1 ho).1, (h1 ho).2.1, trivial⟩, h2⟩

end Db
namespace Db

theorem plc_d0 (a : Int) (ha : a = 0 ∨ a = 3) (l : List UInt8) : ∀ d d' o i : Int, plc a d o i l = plc a d' o i l := by
  induction l with
  | nil => intro d d' o i; rfl
  | cons c r ih =>
    intro d d' o i
    have key : ∀ e, stepS a e o c.toNat = if digB c.toNat then some (a + 1, 1, o) else if (c.toNat : Int) == 32 then some (a, e, o) else none := by
      intro e
      rcases ha with rfl | rfl
      · rw [stepS_lt (by omega)]; unfold daysS; cases h : digB c.toNat <;> cases h2 : ((c.toNat : Int) == 32) <;> simp
      · rw [stepS_lt (by omega)]; unfold daysS; cases h : digB c.toNat <;> cases h2 : ((c.toNat : Int) == 32) <;> simp
    simp only [plc, key]
    cases h : digB c.toNat
    · cases h2 : ((c.toNat : Int) == 32)
      · simp
      · simpa using ih d d' o (i + 1)
    · simp
theorem plc_dayDigits (a : Int) (ha : a = 1 ∨ a = 4) (ds : List UInt8) (h : ∀ c ∈ ds, digB c.toNat = true) : ∀ (m o i : Int) (r : List UInt8), m + ds.length ≤ 3 → plc a m o i (ds ++ r) = plc a (m + ds.length) o (i + ds.length) r := by
  induction ds with
  | nil => intro m o i r _; simp
  | cons c t ih =>
    intro m o i r hl
    simp only [List.length_cons] at hl
    have hc := h c (by simp)
    have hst : stepS a m o c.toNat = some (a, m + 1, o) := by
      rcases ha with rfl | rfl
      · rw [stepS_lt (by omega)]; unfold daysS; simp [hc, show m < 3 by omega]
      · rw [stepS_lt (by omega)]; unfold daysS; simp [hc, show m < 3 by omega]
    rw [List.cons_append, plc_step hst, ih (fun y hy => h y (by simp [hy])) _ _ _ _ (by omega)]
    simp only [List.length_cons]
    congr 1 <;> omega
/-- A day. -/
theorem plc_day (a : Int) (ha : a = 0 ∨ a = 3) (ds : List UInt8) (h : dayS ds) (d o i : Int) (r : List UInt8) : plc a d o i (ds ++ r) = plc (a + 1) ds.length o (i + ds.length) r := by
  obtain ⟨h1, h3, hd⟩ := h
  match ds, h1 with
  | c :: t, _ =>
    have hc := hd c (by simp)
    simp only [List.length_cons] at h3 ⊢
    have hst : stepS a d o c.toNat = some (a + 1, 1, o) := by
      rcases ha with rfl | rfl
      · rw [stepS_lt (by omega)]; unfold daysS; simp [hc]
      · rw [stepS_lt (by omega)]; unfold daysS; simp [hc]
    rw [List.cons_append, plc_step hst, plc_dayDigits (a + 1) (by omega) t (fun y hy => hd y (by simp [hy])) _ _ _ _ (by omega)]
    congr 1 <;> omega
theorem plc_dayNo (a : Int) (ha : a = 0 ∨ a = 3) (l : List UInt8) (h : digB (hd l) = false) (hb : ¬ hd l = 32) (d o i : Int) : plc a d o i l = i := by
  cases l with
  | nil => rcases ha with rfl | rfl <;> rfl
  | cons c r =>
    refine plc_stop ?_
    simp only [hd] at h hb
    rcases ha with rfl | rfl
    · rw [stepS_lt (by omega)]; unfold daysS; simp [h, hb]
    · rw [stepS_lt (by omega)]; unfold daysS; simp [h, hb]
/-- Blanks behind a day. -/
theorem plc_dayBlanks (a : Int) (ha : a = 1 ∨ a = 4) (x : List UInt8) (hx : Blanks x) (hn : x ≠ []) (m o i : Int) (r : List UInt8) : plc a m o i (x ++ r) = plc (a + 1) m o (i + x.length) r := by
  match x, hn with
  | c :: t, _ =>
    have hc : (c.toNat : Int) = 32 := by have := hx c (by simp); omega
    have hst : stepS a m o c.toNat = some (a + 1, m, o) := by
      rw [hc]
      rcases ha with rfl | rfl
      · rw [stepS_lt (by omega)]; unfold daysS; simp [digB]
      · rw [stepS_lt (by omega)]; unfold daysS; simp [digB]
    rw [List.cons_append, plc_step hst, plc_skip (a + 1) (by omega) t (fun y hy => hx y (by simp [hy]))]
    congr 1
    simp; omega
/-- Behind the first day: a -. -/
theorem plc_minus (x : List UInt8) (hx : Blanks x) (c : UInt8) (hc : (c.toNat : Int) = 45) (m o i : Int) (r : List UInt8) : plc 1 m o i (x ++ c :: r) = plc 3 0 o (i + x.length + 1) r := by
  have h1 : ∀ a : Int, a = 1 ∨ a = 2 → ∀ j, plc a m o j (c :: r) = plc 3 0 o (j + 1) r := by
    intro a ha j
    have hst : stepS a m o c.toNat = some (3, m, o) := by
      rw [hc]
      rcases ha with rfl | rfl
      · rw [stepS_lt (by omega)]; unfold daysS; simp [digB]
      · rw [stepS_lt (by omega)]; unfold daysS; simp [digB]
    rw [plc_step hst, plc_d0 3 (by simp) r m 0]
  by_cases hn : x = []
  · subst hn; simpa using h1 1 (by simp) i
  · rw [plc_dayBlanks 1 (by simp) x hx hn, h1 (1 + 1) (by omega)]
theorem plc_minusNo (x l : List UInt8) (hx : Blanks x) (m o i : Int) (hm : 3 ≤ m ∨ digB (hd (x ++ l)) = false) (hb : ¬ hd l = 32) (hc : ¬ hd l = 45) : plc 1 m o i (x ++ l) = i + x.length := by
  by_cases hn : x = []
  · subst hn
    simp only [List.nil_append] at hm ⊢
    cases l with
    | nil => simp [plc]
    | cons c r =>
      simp only [hd] at hm hb hc
      rw [plc_stop]
      · simp
      · rw [stepS_lt (by omega)]; unfold daysS
        rcases hm with hm | hm
        · simp [show ¬ m < 3 by omega, hb, hc]
        · simp [hm, hb, hc]
  · rw [plc_dayBlanks 1 (by simp) x hx hn]
    cases l with
    | nil => simp [plc]
    | cons c r =>
      simp only [hd] at hb hc
      refine plc_stop ?_
      rw [stepS_lt (by omega)]; unfold daysS; simp [hb, hc]
/-- Behind a period: a comma, a bar, or nothing. -/
theorem plc_comma (x : List UInt8) (hx : Blanks x) (c : UInt8) (hc : (c.toNat : Int) = 44) (m o i : Int) (r : List UInt8) : plc 4 m o i (x ++ c :: r) = plc 0 0 o (i + x.length + 1) r := by
  have h1 : ∀ a : Int, a = 4 ∨ a = 5 → ∀ j, plc a m o j (c :: r) = plc 0 0 o (j + 1) r := by
    intro a ha j
    have hst : stepS a m o c.toNat = some (0, m, o) := by
      rw [hc]
      rcases ha with rfl | rfl
      · rw [stepS_lt (by omega)]; unfold daysS; simp [digB]
      · rw [stepS_lt (by omega)]; unfold daysS; simp [digB]
    rw [plc_step hst, plc_d0 0 (by simp) r m 0]
  by_cases hn : x = []
  · subst hn; simpa using h1 4 (by simp) i
  · rw [plc_dayBlanks 4 (by simp) x hx hn, h1 (4 + 1) (by omega)]
theorem plc_bar (x : List UInt8) (hx : Blanks x) (c : UInt8) (hc : (c.toNat : Int) = 124) (m o i : Int) (r : List UInt8) : plc 4 m o i (x ++ c :: r) = plc 6 0 o (i + x.length + 1) r := by
  have h1 : ∀ a : Int, a = 4 ∨ a = 5 → ∀ j, plc a m o j (c :: r) = plc 6 0 o (j + 1) r := by
    intro a ha j
    have hst : stepS a m o c.toNat = some (6, m, o) := by
      rw [hc]
      rcases ha with rfl | rfl
      · rw [stepS_lt (by omega)]; unfold daysS; simp [digB]
      · rw [stepS_lt (by omega)]; unfold daysS; simp [digB]
    rw [plc_step hst, plc_d r 6 m 0 _ _ (by simp)]
  by_cases hn : x = []
  · subst hn; simpa using h1 4 (by simp) i
  · rw [plc_dayBlanks 4 (by simp) x hx hn, h1 (4 + 1) (by omega)]
theorem plc_barNo (x l : List UInt8) (hx : Blanks x) (m o i : Int) (hm : 3 ≤ m ∨ digB (hd (x ++ l)) = false) (hb : ¬ hd l = 32) (hc : ¬ hd l = 44) (hc2 : ¬ hd l = 124) : plc 4 m o i (x ++ l) = i + x.length := by
  by_cases hn : x = []
  · subst hn
    simp only [List.nil_append] at hm ⊢
    cases l with
    | nil => simp [plc]
    | cons c r =>
      simp only [hd] at hm hb hc hc2
      rw [plc_stop]
      · simp
      · rw [stepS_lt (by omega)]; unfold daysS
        rcases hm with hm | hm
        · simp [show ¬ m < 3 by omega, hb, hc, hc2]
        · simp [hm, hb, hc, hc2]
  · rw [plc_dayBlanks 4 (by simp) x hx hn]
    cases l with
    | nil => simp [plc]
    | cons c r =>
      simp only [hd] at hb hc hc2
      refine plc_stop ?_
      rw [stepS_lt (by omega)]; unfold daysS; simp [hb, hc, hc2]

/-- Reading a period off l. -/
def Per (l : List UInt8) (ok : Bool) (l' : List UInt8) (a b : List UInt8) : Prop :=
  ∃ x, l = x ++ l' ∧ (ok = true → dayS a ∧ dayS b ∧ bare x = a ++ 45 :: b ∧ (b.length = 3 ∨ digB (hd l') = false) ∧ ∀ o i : Int, plc 0 0 o i l = plc 4 b.length o (i + x.length) l') ∧
    (ok = false → ∀ o i : Int, plc 0 0 o i l = i + x.length)
theorem bare_digs {ds : List UInt8} (h : ∀ c ∈ ds, digB c.toNat = true) : bare ds = ds := by
  unfold bare; rw [List.filter_eq_self]; intro c hc
  have := h c hc
  simp [digB] at this
  simp; omega
theorem u8_45 {c : UInt8} (h : (c.toNat : Int) = 45) : c = 45 := UInt8.toNat_inj.1 (by simp; omega)
theorem per_no1 {x l' a b : List UInt8} (hx : Blanks x) (h : digB (hd l') = false) (hb : ¬ hd l' = 32) : Per (x ++ l') false l' a b := by
  refine ⟨x, rfl, (fun h0 => by cases h0), fun _ o i => ?_⟩
  rw [plc_skip 0 (by simp) x hx, plc_dayNo 0 (by simp) l' h hb]
theorem per_no2 {x ds y l' a b : List UInt8} (hx : Blanks x) (hd1 : dayS ds) (hst : ds.length = 3 ∨ digB (hd (y ++ l')) = false) (hy : Blanks y) (hb : ¬ hd l' = 32) (hc : ¬ hd l' = 45) : Per (x ++ (ds ++ (y ++ l'))) false l' a b := by
  refine ⟨x ++ ds ++ y, by simp, (fun h0 => by cases h0), fun _ o i => ?_⟩
  rw [plc_skip 0 (by simp) x hx, plc_day 0 (by simp) ds hd1, show (0 : Int) + 1 = 1 from rfl, plc_minusNo y l' hy _ _ _ (by rcases hst with h | h; left; omega; right; exact h) hb hc]
  simp; omega
theorem per_no3 {x ds y z l' a b : List UInt8} {c : UInt8} (hx : Blanks x) (hd1 : dayS ds) (hy : Blanks y) (hc : (c.toNat : Int) = 45) (hz : Blanks z) (h : digB (hd l') = false) (hb : ¬ hd l' = 32) : Per (x ++ (ds ++ (y ++ c :: (z ++ l')))) false l' a b := by
  refine ⟨x ++ ds ++ y ++ [c] ++ z, by simp, (fun h0 => by cases h0), fun _ o i => ?_⟩
  rw [plc_skip 0 (by simp) x hx, plc_day 0 (by simp) ds hd1, show (0 : Int) + 1 = 1 from rfl, plc_minus y hy c hc, plc_skip 3 (by simp) z hz, plc_dayNo 3 (by simp) l' h hb]
  simp; omega
theorem per_yes {x a y z b l' : List UInt8} {c : UInt8} (hx : Blanks x) (ha : dayS a) (hy : Blanks y) (hc : (c.toNat : Int) = 45) (hz : Blanks z) (hb : dayS b) (hst : b.length = 3 ∨ digB (hd l') = false) : Per (x ++ (a ++ (y ++ c :: (z ++ (b ++ l'))))) true l' a b := by
  refine ⟨x ++ a ++ y ++ [c] ++ z ++ b, by simp, fun _ => ⟨ha, hb, ?_, hst, fun o i => ?_⟩, (fun h0 => by cases h0)⟩
  · simp only [bare_append, bare_blanks hx, bare_blanks hy, bare_blanks hz, bare_digs ha.2.2, bare_digs hb.2.2, u8_45 hc]
    simp
    rfl
  · rw [plc_skip 0 (by simp) x hx, plc_day 0 (by simp) a ha, show (0 : Int) + 1 = 1 from rfl, plc_minus y hy c hc, plc_skip 3 (by simp) z hz, plc_day 3 (by simp) b hb, show (3 : Int) + 1 = 4 from rfl]
    congr 1
    simp; omega

end Db
namespace Db

/-- Rows and their parts. -/
def RowsS (rows : List (List UInt8)) (pss : List (List Pt)) : Prop := rows.length = pss.length ∧ ∀ (i : Nat) e ps, rows[i]? = some e → pss[i]? = some ps → ExpS e ps
theorem RowsS.nil : RowsS [] [] := ⟨rfl, by intro i e ps h; simp at h⟩
theorem RowsS.snoc {rows : List (List UInt8)} {pss : List (List Pt)} (h : RowsS rows pss) {e : List UInt8} {ps : List Pt} (he : ExpS e ps) : RowsS (rows ++ [e]) (pss ++ [ps]) := by
  refine ⟨by simp [h.1], ?_⟩
  intro i e' ps' h1 h2
  by_cases hi : i < rows.length
  · rw [List.getElem?_append_left hi] at h1
    rw [List.getElem?_append_left (by rw [← h.1]; exact hi)] at h2
    exact h.2 i e' ps' h1 h2
  · rw [List.getElem?_append_right (by omega)] at h1
    rw [List.getElem?_append_right (by rw [← h.1]; omega)] at h2
    rw [← h.1] at h2
    match hk : i - rows.length, h1, h2 with
    | 0, h1, h2 => simp at h1 h2; subst h1 h2; exact he
    | k + 1, h1, h2 => simp at h1

/-- Some rows have been read, each with its semicolon. -/
structure RowSt (l l' : List UInt8) (rows : List (List UInt8)) (pss : List (List Pt)) : Prop where
  ex : ∃ x, l = x ++ l' ∧ (∀ i : Int, plc 6 0 0 i l = plc 6 0 0 (i + x.length) l') ∧ (∀ r, split (bare x ++ r) 59 = rows ++ split r 59) ∧ ∀ c ∈ bare x, ¬ c.toNat = 124
  rs : RowsS rows pss
/-- The rows have been read. -/
structure RowEnd (l : List UInt8) (ok : Bool) (l' : List UInt8) (rows : List (List UInt8)) (pss : List (List Pt)) : Prop where
  yes : ok = true → (∀ i : Int, plc 6 0 0 i l = -1) ∧ split (bare l) 59 = rows ∧ (∀ c ∈ bare l, ¬ c.toNat = 124) ∧ RowsS rows pss
  no : ok = false → ∃ x, l = x ++ l' ∧ ∀ i : Int, plc 6 0 0 i l = i + x.length

theorem RowSt.start (l : List UInt8) : RowSt l l [] [] := ⟨⟨[], rfl, fun i => by simp, fun r => by simp [bare], by simp [bare]⟩, RowsS.nil⟩
theorem exp_ne {e : List UInt8} {ps : List Pt} (h : ExpS e ps) : ∀ c ∈ e, c ≠ 59 := by
  rintro c hc rfl
  exact (h.chars 59 hc).2.2.1 rfl
theorem u8_59 {c : UInt8} (h : (c.toNat : Int) = 59) : c = 59 := UInt8.toNat_inj.1 (by simp; omega)
theorem RowSt.no {l l1 l' : List UInt8} {rows : List (List UInt8)} {pss : List (List Pt)} {ps : List Pt} (h : RowSt l l1 rows pss) (he : Exp l1 false l' ps) (rows' : List (List UInt8)) (pss' : List (List Pt)) : RowEnd l false l' rows' pss' := by
  obtain ⟨x, rfl, h1, h2, h3⟩ := h.ex
  obtain ⟨y, rfl, g1, g2⟩ := he
  refine ⟨(fun h0 => by cases h0), fun _ => ⟨x ++ y, by simp, fun i => ?_⟩⟩
  rw [h1, g2 rfl 0 0 _ (by omega)]; simp; omega
theorem RowSt.semi {l l1 r : List UInt8} {rows : List (List UInt8)} {pss : List (List Pt)} {ps : List Pt} {c : UInt8} (h : RowSt l l1 rows pss) (he : Exp l1 true (c :: r) ps) (hc : (c.toNat : Int) = 59) : ∃ e, RowSt l r (rows ++ [e]) (pss ++ [ps]) := by
  obtain ⟨x, rfl, h1, h2, h3⟩ := h.ex
  obtain ⟨y, rfl, g1, g2⟩ := he
  obtain ⟨hp, hs, _⟩ := g1 rfl
  refine ⟨bare y, ⟨x ++ y ++ [c], by simp, fun i => ?_, fun q => ?_, ?_⟩, h.rs.snoc hs⟩
  · rw [h1, hp 0 0 _ (by omega), plc_row hc]
    congr 1
    simp; omega
  · simp only [bare_append, u8_59 hc, List.append_assoc]
    rw [show bare [59] = [59] from rfl, h2, List.cons_append, List.nil_append, split_cons 59 _ q (exp_ne hs)]
    rfl
  · intro k hk
    simp only [bare_append, u8_59 hc, List.mem_append] at hk
    rcases hk with (hk | hk) | hk
    · exact h3 k hk
    · exact (hs.chars k hk).2.2.2
    · rw [show bare [59] = [59] from rfl] at hk
      simp at hk; subst hk; decide
theorem RowSt.fin_no {l l1 l' : List UInt8} {rows : List (List UInt8)} {pss : List (List Pt)} {ps : List Pt} (h : RowSt l l1 rows pss) (he : Exp l1 true l' ps) (h59 : ¬ hd l' = 59) (hn : l' ≠ []) (rows' : List (List UInt8)) (pss' : List (List Pt)) : RowEnd l false l' rows' pss' := by
  obtain ⟨x, rfl, h1, h2, h3⟩ := h.ex
  obtain ⟨y, rfl, g1, g2⟩ := he
  obtain ⟨hp, hs, hh⟩ := g1 rfl
  refine ⟨(fun h0 => by cases h0), fun _ => ⟨x ++ y, by simp, fun i => ?_⟩⟩
  rw [h1, hp 0 0 _ (by omega), plc_fail0 l' hn hh.1 hh.2 h59]; simp; omega
theorem RowSt.fin_yes {l l1 : List UInt8} {rows : List (List UInt8)} {pss : List (List Pt)} {ps : List Pt} (h : RowSt l l1 rows pss) (he : Exp l1 true [] ps) : ∃ e, RowEnd l true [] (rows ++ [e]) (pss ++ [ps]) := by
  obtain ⟨x, rfl, h1, h2, h3⟩ := h.ex
  obtain ⟨y, rfl, g1, g2⟩ := he
  obtain ⟨hp, hs, hh⟩ := g1 rfl
  refine ⟨bare y, fun _ => ⟨fun i => ?_, ?_, ?_, h.rs.snoc hs⟩, (fun h0 => by cases h0)⟩
  · rw [h1, hp 0 0 _ (by omega)]; rfl
  · simp only [List.append_nil, bare_append]
    rw [h2, split_one 59 _ (exp_ne hs)]
  · intro k hk
    simp only [List.append_nil, bare_append, List.mem_append] at hk
    rcases hk with hk | hk
    · exact h3 k hk
    · exact (hs.chars k hk).2.2.2

end Db
namespace Db

/-- How many are on the pile; none: too few. -/
def dpt : List Pt → Nat → Option Nat
  | [], c => some c
  | p :: r, c => if opdB p.1 then dpt r (c + 1) else if p.1 == 126 then (if 1 ≤ c then dpt r c else none) else if opB p.1 && decide (2 ≤ c) then dpt r (c - 1) else none
theorem opnd_opd {e : List UInt8} {ps : List Pt} (h : Opnd e ps) : ∃ p, ps = [p] ∧ opdB p.1 = true := by
  rcases h with ⟨_, _, _, rfl⟩ | ⟨c, ds, _, _, _, hs, rfl⟩
  · exact ⟨_, rfl, rfl⟩
  · refine ⟨_, rfl, ?_⟩
    unfold opdB
    rcases hs with ⟨hs, _⟩ | ⟨hs, _⟩ <;> simp [hs]
theorem wf_dpt {n : Nat} : ∀ {e : List UInt8} {ps : List Pt}, Wf n e ps → ∀ q c, dpt (ps ++ q) c = dpt q (c + 1) := by
  induction n with
  | zero => intro e ps h; exact absurd h (by simp [Wf])
  | succ n ih =>
    intro e ps h q c
    rcases h with ⟨_, h⟩ | ⟨_, h2⟩ | ⟨_, p, h2, rfl⟩ | ⟨h1, p, r, h2, h3, rfl⟩
    · obtain ⟨p, rfl, hp⟩ := opnd_opd h
      simp [dpt, hp]
    · exact ih h2 q c
    · rw [List.append_assoc, ih h2]
      show dpt ((126, 0) :: q) (c + 1) = _
      simp [dpt, opdB, selB, oldB]
    · rw [List.append_assoc, List.append_assoc, ih h2, ih h3]
      have := opd_op h1
      show dpt (((cut e).1, 0) :: q) (c + 1 + 1) = _
      simp [dpt, this.1, this.2, h1]
theorem wf_kind {n : Nat} (rows : List Int) : ∀ {e : List UInt8} {ps : List Pt}, Wf n e ps → ∃ k, ∀ q st, kEval rows (ps ++ q) st = kEval rows q (k :: st) := by
  induction n with
  | zero => intro e ps h; exact absurd h (by simp [Wf])
  | succ n ih =>
    intro e ps h
    rcases h with ⟨_, h⟩ | ⟨_, h2⟩ | ⟨_, p, h2, rfl⟩ | ⟨h1, p, r, h2, h3, rfl⟩
    · obtain ⟨p, rfl, hp⟩ := opnd_opd h
      exact ⟨_, fun q st => kEval_leaf rows p q st hp⟩
    · exact ih h2
    · obtain ⟨k, hk⟩ := ih h2
      exact ⟨k, fun q st => kEval_neg rows p q k hk st⟩
    · obtain ⟨a, ha⟩ := ih h2
      obtain ⟨b, hb⟩ := ih h3
      exact ⟨_, fun q st => kEval_bin rows _ h1 p r q a b ha hb st⟩
/-- What takes what it does not take stays so. -/
theorem zero_stays (rows : List Int) (ps : List Pt) : ∀ st, (0 : Int) ∈ st → (0 : Int) ∈ kEval rows ps st := by
  induction ps with
  | nil => intro st h; exact h
  | cons p r ih =>
    intro st h
    unfold kEval
    split
    · exact ih _ (by simp [h])
    · split
      · exact ih _ h
      · match st, h with
        | [], h => exact h
        | [x], h => exact h
        | y :: x :: t, h =>
          refine ih _ ?_
          simp at h ⊢
          rcases h with h | h | h
          · left; subst h; simp [joinK]
          · left; subst h; simp [joinK]
          · right; exact h
/-- The document's kind of a kind of the program (0: a number, 1: money). -/
def toR (k : Int) : Int := 2 - k
/-- What joinKinds answers. -/
def jk (o l r : Int) : Int × Bool :=
  if o == 42 then (if l == 1 && r == 1 then (0, false) else if l == 1 || r == 1 then (1, true) else (0, true))
  else if o == 47 then (if l == 0 && r == 1 then (0, false) else if l == 1 && r == 0 then (1, true) else (0, true))
  else if l != r then (0, false) else (l, true)
theorem jk_join (o l r : Int) (ho : opB o = true) (hl : l = 0 ∨ l = 1) (hr : r = 0 ∨ r = 1) : joinK o (toR l) (toR r) = (if (jk o l r).2 then toR (jk o l r).1 else 0) ∧ ((jk o l r).1 = 0 ∨ (jk o l r).1 = 1) := by
  simp [opB] at ho
  rcases ho with ((rfl | rfl) | rfl) | rfl <;> rcases hl with rfl | rfl <;> rcases hr with rfl | rfl <;> decide

end Db
namespace Db
open Go

/-- Digits without a 0 ahead of another digit. -/
def trm : List UInt8 → List UInt8
  | [] => []
  | [c] => [c]
  | c :: d :: r => if c.toNat = 48 then trm (d :: r) else c :: d :: r
theorem trm_zeros (z : List UInt8) (hz : ∀ c ∈ z, c.toNat = 48) (c : UInt8) : trm (z ++ [c]) = [c] := by
  induction z with
  | nil => rfl
  | cons x t ih =>
    have hx := hz x (by simp)
    have ih := ih (fun y hy => hz y (by simp [hy]))
    cases t with
    | nil => simp [trm, hx]
    | cons y r => simpa [trm, hx] using ih
theorem trm_snoc (ds : List UInt8) (h : ∃ x ∈ ds, ¬ x.toNat = 48) (c : UInt8) : trm (ds ++ [c]) = trm ds ++ [c] := by
  induction ds with
  | nil => obtain ⟨x, hx, _⟩ := h; cases hx
  | cons x t ih =>
    by_cases hx : x.toNat = 48
    · have h' : ∃ y ∈ t, ¬ y.toNat = 48 := by
        obtain ⟨y, hy, hn⟩ := h
        rw [List.mem_cons] at hy
        rcases hy with rfl | hy
        · exact absurd hx hn
        · exact ⟨y, hy, hn⟩
      have ih := ih h'
      cases t with
      | nil => obtain ⟨y, hy, _⟩ := h'; cases hy
      | cons y r => simpa [trm, hx] using ih
    · cases t with
      | nil => simp [trm, hx]
      | cons y r => simp [trm, hx]
theorem valGo_snoc' (l : List UInt8) (c : UInt8) : ∀ n, valGo n (l ++ [c]) = 10 * valGo n l + ((c.toNat : Int) - 48) := by
  induction l with
  | nil => intro n; rfl
  | cons x t ih => intro n; exact ih _
theorem val_zero (z : List UInt8) (hd : ∀ c ∈ z, digB c.toNat = true) (h : val z = 0) : ∀ c ∈ z, c.toNat = 48 := by
  have key : ∀ (z : List UInt8) (n : Int), 0 ≤ n → (∀ c ∈ z, digB c.toNat = true) → valGo n z = 0 → n = 0 ∧ ∀ c ∈ z, c.toNat = 48 := by
    intro z
    induction z with
    | nil => intro n _ _ h; exact ⟨h, by simp⟩
    | cons x t ih =>
      intro n hn hd h
      have hx := hd x (by simp)
      simp [digB] at hx
      have := ih (10 * n + ((x.toNat : Int) - 48)) (by omega) (fun c hc => hd c (by simp [hc])) h
      refine ⟨by omega, ?_⟩
      intro c hc
      rw [List.mem_cons] at hc
      rcases hc with rfl | hc
      · omega
      · exact this.2 c hc
  exact (key z 0 (by omega) hd h).2
theorem zero_val (z : List UInt8) (hz : ∀ c ∈ z, c.toNat = 48) : val z = 0 := by
  have : ∀ (z : List UInt8), (∀ c ∈ z, c.toNat = 48) → valGo 0 z = 0 := by
    intro z
    induction z with
    | nil => intro _; rfl
    | cons x t ih =>
      intro h
      have hx := h x (by simp)
      show valGo (10 * 0 + ((x.toNat : Int) - 48)) t = 0
      rw [hx]
      exact ih (fun c hc => h c (by simp [hc]))
  exact this z hz
theorem u8_of {c : UInt8} {n : Nat} (h : c.toNat = n) : UInt8.ofNat n = c := by rw [← h]; simp
/-- Digits without noughts ahead are those of their value. -/
theorem trm_dec (ds : List UInt8) (hn : ds ≠ []) (hd : ∀ c ∈ ds, digB c.toNat = true) : trm ds = Lib.decDigits (val ds).toNat := by
  have key : ∀ (r : List UInt8), (∀ c ∈ r, digB c.toNat = true) → r ≠ [] → trm r.reverse = Lib.decDigits (val r.reverse).toNat := by
    intro r
    induction r with
    | nil => intro _ h; exact absurd rfl h
    | cons c t ih =>
      intro hd _
      have hc := hd c (by simp)
      simp [digB] at hc
      have hdt : ∀ x ∈ t.reverse, digB x.toNat = true := fun x hx => hd x (by simp at hx; simp [hx])
      have hv : val (t.reverse ++ [c]) = 10 * val t.reverse + ((c.toNat : Int) - 48) := valGo_snoc' t.reverse c 0
      have hp := val_pos t.reverse hdt
      rw [List.reverse_cons]
      by_cases h0 : val t.reverse = 0
      · rw [trm_zeros _ (val_zero _ hdt h0), hv, h0, Lib.decDigits_one (by omega)]
        rw [u8_of (c := c) (by omega)]
      · have hex : ∃ x ∈ t.reverse, ¬ x.toNat = 48 := by
          apply Classical.byContradiction
          intro hne
          refine h0 (zero_val _ (fun x hx => ?_))
          apply Classical.byContradiction
          intro hx48
          exact hne ⟨x, hx, hx48⟩
        have htn : t ≠ [] := by intro e; subst e; obtain ⟨x, hx, _⟩ := hex; cases hx
        rw [trm_snoc _ hex, ih (fun x hx => hd x (by simp [hx])) htn, hv]
        have e1 : (10 * val t.reverse + ((c.toNat : Int) - 48)).toNat = 10 * (val t.reverse).toNat + (c.toNat - 48) := by omega
        rw [e1]
        conv => rhs; rw [Lib.decDigits]
        rw [dif_neg (by omega)]
        have e2 : (10 * (val t.reverse).toNat + (c.toNat - 48)) / 10 = (val t.reverse).toNat := by omega
        have e3 : (10 * (val t.reverse).toNat + (c.toNat - 48)) % 10 = c.toNat - 48 := by omega
        rw [e2, e3, u8_of (c := c) (by omega)]
  have := key ds.reverse (fun c hc => hd c (by simpa using hc)) (by simpa using hn)
  simpa using this

/-- A sign as a byte. -/
def u8 (s : Int) : UInt8 := UInt8.ofNat s.toNat
theorem u8_toNat (c : UInt8) : u8 (c.toNat : Int) = c := by simp [u8]
/-- A piece: its text, how firmly it holds. -/
abbrev Pc := List UInt8 × Nat
def brk (p : Pc) (least : Nat) : List UInt8 := if p.2 < least then 40 :: (p.1 ++ [41]) else p.1
def rkS (o : Int) : Nat := if o == 42 || o == 47 then 2 else 1
def wordP (p : Pt) : List UInt8 := if p.1 == 48 then Lib.itoa p.2 else u8 p.1 :: Lib.itoa p.2
def sEval : List Pt → List Pc → List Pc
  | [], st => st
  | p :: r, st => if opdB p.1 then sEval r ((wordP p, 3) :: st) else if p.1 == 126 then
      match st with
      | x :: t => sEval r ((45 :: brk x 3, 3) :: t)
      | [] => []
    else match st with
      | y :: x :: t => sEval r ((brk x (rkS p.1) ++ u8 p.1 :: brk y (rkS p.1 + 1), rkS p.1) :: t)
      | _ => st
def ShowR (ps : List Pt) (x : Pc) : Prop := ∀ q st, sEval (ps ++ q) st = sEval q (x :: st)
theorem ShowR.uniq {ps : List Pt} {x y : Pc} (h : ShowR ps x) (k : ShowR ps y) : x = y := by
  have h1 := h [] []
  have h2 := k [] []
  rw [h1] at h2
  simpa [sEval] using h2
theorem showR_leaf {p : Pt} (h : opdB p.1 = true) : ShowR [p] (wordP p, 3) := fun q st => by simp [sEval, h]
theorem showR_neg {ps : List Pt} {x : Pc} (h : ShowR ps x) : ShowR (ps ++ [(126, 0)]) (45 :: brk x 3, 3) := fun q st => by
  rw [List.append_assoc, h]; simp [sEval, opdB, selB, oldB]
theorem showR_bin {p q : List Pt} {x y : Pc} {o : Int} (ho : opB o = true) (hp : ShowR p x) (hq : ShowR q y) : ShowR (p ++ q ++ [(o, 0)]) (brk x (rkS o) ++ u8 o :: brk y (rkS o + 1), rkS o) := fun r st => by
  rw [List.append_assoc, List.append_assoc, hp, hq]
  have := opd_op ho
  simp [sEval, this.1, this.2]
/-- How firmly the operation holds that is worked out last. -/
def rkO (o : Int) : Nat := if o == 43 || o == 45 then 1 else if o == 42 || o == 47 then 2 else 3
theorem rkO_op {o : Int} (h : opB o = true) : rkO o = rkS o := by
  simp [opB] at h; rcases h with ((rfl | rfl) | rfl) | rfl <;> rfl
theorem wf_show {n : Nat} : ∀ {e : List UInt8} {ps : List Pt}, Wf n e ps → ∃ x, ShowR ps x := by
  induction n with
  | zero => intro e ps h; exact absurd h (by simp [Wf])
  | succ n ih =>
    intro e ps h
    rcases h with ⟨_, h⟩ | ⟨_, h2⟩ | ⟨_, p, h2, rfl⟩ | ⟨h1, p, r, h2, h3, rfl⟩
    · obtain ⟨p, rfl, hp⟩ := opnd_opd h
      exact ⟨_, showR_leaf hp⟩
    · exact ih h2
    · obtain ⟨x, hx⟩ := ih h2
      exact ⟨_, showR_neg hx⟩
    · obtain ⟨x, hx⟩ := ih h2
      obtain ⟨y, hy⟩ := ih h3
      exact ⟨_, showR_bin h1 hx hy⟩
/-- An operand in its plain form. -/
theorem opnd_word {e : List UInt8} {p : Pt} (h : Opnd e [p]) : wordP p = (if digB (hd e) then trm e else e.take 1 ++ trm (e.drop 1)) ∧ 1 ≤ e.length := by
  rcases h with ⟨h1, _, hd1, he⟩ | ⟨c, ds, rfl, h1, hd1, hs, he⟩
  · simp at he
    subst he
    have hn : e ≠ [] := by intro e0; subst e0; simp at h1
    refine ⟨?_, h1⟩
    have hh : digB (hd e) = true := by
      cases e with
      | nil => exact absurd rfl hn
      | cons c r => exact hd1 c (by simp)
    have hp := val_pos e hd1
    rw [hh, if_pos rfl, trm_dec e hn hd1]
    unfold wordP
    show Lib.itoa (val e) = _
    rw [Lib.itoa, if_neg (by omega)]
  · simp at he
    subst he
    refine ⟨?_, by simp⟩
    have hcd : digB (c.toNat : Int) = false := by
      rcases hs with ⟨hs, _⟩ | ⟨hs, _⟩
      · exact (sel_c hs).2.2.2
      · exact (old_c hs).2.2.2.1
    have hn : ds ≠ [] := by intro e0; subst e0; simp at h1
    have hp := val_pos ds hd1
    have h48 : ((c.toNat : Int) == 48) = false := by
      rw [beq_eq_false_iff_ne]; intro e0; rw [e0] at hcd; cases hcd
    unfold wordP
    simp only [hd, hcd, h48]
    simp only [Bool.false_eq_true, if_false]
    rw [Lib.itoa, if_neg (by omega), u8_toNat, List.drop_one, List.tail_cons, trm_dec ds hn hd1]
    simp

end Db
namespace Go.Proofs.YtdchbenfccofpaaDoor
open Go.RowKit Db

/-- The library's table of powers reads as it was laid. -/
def Tab (w : World) : Prop := Lib.TabIs Tryd.prog w "internal/strconv.uint64pow10" .u64 Lib.pow10Tab
theorem Tab.below {w w' : World} (h : Tab w) (hb : Below w.heap.size w w') : Tab w' := Lib.tabBelow_of_tabIs h w' hb
theorem below_grow (w : World) (k : Nat) (os : Array Obj) : Below w.heap.size w (Go.Sort.grow (w.drewN k) os) := by
  refine ⟨rfl, rfl, rfl, by simp [Go.Sort.grow, World.drewN], fun j hj => ?_⟩
  show (w.heap ++ os)[j]? = w.heap[j]?
  rw [Array.getElem?_append_left hj]
theorem L_list (l : List UInt8) : L ⟨l.toArray⟩ = l := by simp [L]
theorem size_L (u : ByteArray) : u.size = (L u).length := (L_length u).symm

theorem itoa_any (n : Int) (w : World) (h0 : -9223372036854775808 ≤ n) (h1 : n ≤ 9223372036854775807) (ht : Tab w) :
    Calls Tryd.prog 51 #[.int .i64 n] w fun e w' => ∃ u : ByteArray, e = .returned (.string u) ∧ L u = Lib.itoa n ∧ Below w.heap.size w w' := by
  refine (Tryd.strconv_Itoa n h0 h1 w ht).mono ?_
  rintro e w' ⟨rfl, k, os, rfl⟩
  exact ⟨_, rfl, L_list _, below_grow w k os⟩
theorem itoa_pos {n : Int} (h : 0 ≤ n) : Lib.itoa n = Lib.decDigits n.toNat := by
  unfold Lib.itoa; rw [if_neg (by omega)]
theorem itoa_size {n : Int} (h0 : -9223372036854775808 ≤ n) (h1 : n ≤ 9223372036854775807) {u : ByteArray} (hu : L u = Lib.itoa n) : u.size ≤ 21 := by
  rw [size_L, hu]; exact Lib.itoa_length_le n h0 h1
theorem dec_size {n : Nat} (h1 : n ≤ 9223372036854775808) {u : ByteArray} (hu : L u = Lib.decDigits n) : u.size ≤ 21 := by
  by_cases h0 : n = 0
  · exact itoa_size (n := (n : Int)) (by omega) (by omega) (by rw [hu, itoa_pos (by omega)]; rfl)
  · have h2 := Lib.itoa_length_le (-(n : Int)) (by omega) (by omega)
    unfold Lib.itoa at h2
    rw [if_pos (by omega), show (-(n : Int)).natAbs = n by omega, List.length_cons] at h2
    rw [size_L, hu]; omega

theorem conv_one (c : UInt8) (W : World) (g : Nat) (h : W.cell? ⟨g, 0, none⟩ = some (.int .u8 (c.toNat : Int))) : (convert 95 9 (.slice (some ⟨g, 0, none⟩) 1 1)).run Tryd.prog W = .ok (.string ⟨#[c]⟩) W := by
  have := run_convert_bytes_back (P := Tryd.prog) W 95 9 5 ⟨g, 0, none⟩ 1 [c] Tryd.underlying95 Tryd.underlying5 Tryd.underlying9 (fun j hj => by
    have h0 : j = 0 := by simpa using hj
    subst h0
    exact h)
  exact this

set_option maxRecDepth 100000 in
set_option maxHeartbeats 1000000 in
theorem unsigned_any (k : Nat) : ∀ (u : Nat) (w : World), u < k → u ≤ 9223372036854775808 →
    Calls Tryd.prog 34 #[.int .u64 (u : Int)] w fun e w' => ∃ s : ByteArray, e = .returned (.string s) ∧ L s = Lib.decDigits u ∧ Below w.heap.size w w' := by
  induction k with
  | zero => intro u w h; omega
  | succ k ih =>
    intro u w hk hu
    obtain ⟨c, hc⟩ : ∃ c : UInt8, UInt8.ofNat (48 + u % 10) = c := ⟨_, rfl⟩
    have hcn : 48 + (u : Int) % 10 = (c.toNat : Int) := by
      rw [← hc]
      have : (UInt8.ofNat (48 + u % 10)).toNat = 48 + u % 10 := by simp; omega
      omega
    have hcv : (convert 95 9 (.slice (some ⟨w.heap.size, 0, none⟩) 1 1)).run Tryd.prog (w.alloc (.cells #[.int .u8 (48 + (u : Int) % 10)] 5)) = .ok (.string ⟨#[c]⟩) (w.alloc (.cells #[.int .u8 (48 + (u : Int) % 10)] 5)) :=
      conv_one c _ _ (by rw [hcn]; simp)
    have Hih := hide ih
    have Hc := hide hc
    clear ih hc hcn
    go_enter Tryd.func34, Tryd.ntmps34
    by_cases h10 : u < 10
    · have hd : decide ((u : Int) < 10) = true := by simp; omega
      go_wp2_with fail
      go_ret
      refine ⟨_, rfl, ?_, (Below.refl _ _).alloc (Nat.le_refl _) _⟩
      unfold Lib.decDigits
      rw [dif_pos h10, ← unhide Hc, Nat.mod_eq_of_lt h10]
      rfl
    · have hd : decide ((u : Int) < 10) = false := by simp; omega
      go_wp2_with fail
      rw [show (u : Int) / 10 = ((u / 10 : Nat) : Int) by omega]
      refine (unhide Hih (u / 10) _ (by omega) (by omega)).mono ?_
      rintro e w1 ⟨s, rfl, hs, hb⟩
      have hszz : s.size ≤ 21 := dec_size (by omega) hs
      have Hs := hide hs
      have Hb := hide hb
      clear hs hb
      go_wp2_with fail
      go_ret
      refine ⟨_, rfl, ?_, ?_⟩
      · rw [L_append, unhide Hs]
        conv => rhs; unfold Lib.decDigits
        rw [dif_neg h10, ← unhide Hc]
        rfl
      · exact ((Below.refl _ _).alloc (Nat.le_refl _) _).then' (by simp) (unhide Hb)

set_option maxRecDepth 100000 in
set_option maxHeartbeats 1000000 in
theorem mag_neg (n : Nat) (w : World) (h1 : 1 ≤ n) (h : n ≤ 9223372036854775808) :
    Calls Tryd.prog 33 #[.int .i64 (-(n : Int))] w fun e w' => e = .returned (.int .u64 (n : Int)) ∧ w' = w := by
  have hd : decide (-(n : Int) < 0) = true := by simp; omega
  have hw1 : IntKind.u64.wrap (-(n : Int)) = 18446744073709551616 - (n : Int) := by unfold IntKind.wrap; simp [IntKind.bits, IntKind.signed]; omega
  have hw2 : IntKind.u64.wrap (-(18446744073709551616 - (n : Int))) = (n : Int) := by unfold IntKind.wrap; simp [IntKind.bits, IntKind.signed]; omega
  go_enter Tryd.func33, Tryd.ntmps33
  go_wp2_with fail
  go_ret
  exact ⟨rfl, rfl⟩

set_option maxHeartbeats 1000000 in
theorem number10_any (n : Int) (w : World) (h0 : -9223372036854775808 ≤ n) (h1 : n ≤ 9223372036854775807) :
    Calls Tryd.prog 13 #[.int .i64 n] w fun e w' => ∃ s : ByteArray, e = .returned (.string s) ∧ L s = Lib.itoa n ∧ Below w.heap.size w w' := by
  by_cases hn : n < 0
  · obtain ⟨k, hk⟩ : ∃ k : Nat, n = -(k : Int) := ⟨n.natAbs, by omega⟩
    subst hk
    have hd : decide (-(k : Int) < 0) = true := by simp; omega
    have Hm := hide (mag_neg k w (by omega) (by omega))
    have Hit : Hid (Lib.itoa (-(k : Int)) = 45 :: Lib.decDigits k) := by
      show _ = _
      unfold Lib.itoa
      rw [if_pos hn, show (-(k : Int)).natAbs = k by omega]
    go_enter Tryd.func13, Tryd.ntmps13
    go_wp2_with fail
    refine (unhide Hm).mono ?_
    rintro e w1 ⟨rfl, rfl⟩
    go_wp2_with fail
    refine (unsigned_any (k + 1) k _ (by omega) (by omega)).mono ?_
    rintro e w2 ⟨s, rfl, hs, hb⟩
    have hszz : s.size ≤ 21 := dec_size (by omega) hs
    have Hs := hide hs
    have Hb := hide hb
    clear hs hb
    go_wp2_with fail
    go_ret
    exact ⟨_, rfl, by rw [L_append, unhide Hs, unhide Hit]; rfl, unhide Hb⟩
  · obtain ⟨k, rfl⟩ : ∃ k : Nat, n = (k : Int) := ⟨n.toNat, by omega⟩
    have hd : decide ((k : Int) < 0) = false := by simp
    go_enter Tryd.func13, Tryd.ntmps13
    go_wp2_with fail
    refine (unsigned_any (k + 1) k _ (by omega) (by omega)).mono ?_
    rintro e w1 ⟨s, rfl, hs, hb⟩
    have Hs := hide hs
    have Hb := hide hb
    clear hs hb
    go_wp2_with fail
    go_ret
    exact ⟨s, rfl, by rw [unhide Hs, itoa_pos (by omega)]; rfl, unhide Hb⟩

end Go.Proofs.YtdchbenfccofpaaDoor
namespace Db

def jn (sep : UInt8) : List (List UInt8) → List UInt8
  | [] => []
  | x :: r => x ++ r.flatMap (fun y => sep :: y)
theorem jn_one {sep : UInt8} {l : List (List UInt8)} {x : List UInt8} (h : l[0]? = some x) : jn sep (l.take 1) = x := by
  cases l with
  | nil => simp at h
  | cons y r => simp at h; subst h; simp [jn]
theorem jn_more {sep : UInt8} {l : List (List UInt8)} {i : Nat} {x : List UInt8} (hi : 0 < i) (h : l[i]? = some x) : jn sep (l.take (i + 1)) = jn sep (l.take i) ++ sep :: x := by
  cases l with
  | nil => simp at h
  | cons y r =>
    obtain ⟨k, rfl⟩ : ∃ k, i = k + 1 := ⟨i - 1, by omega⟩
    simp only [List.getElem?_cons_succ] at h
    simp only [List.take_succ_cons, jn]
    rw [List.take_add_one, h]
    simp
end Db
namespace Go.Proofs.YtdchbenfccofpaaDoor
open Go.RowKit Db

set_option maxRecDepth 100000 in
set_option maxHeartbeats 1000000 in
theorem signText_any (s : UInt8) (w : World) :
    Calls Tryd.prog 85 #[.int .u8 (s.toNat : Int)] w fun e w' => ∃ u : ByteArray, e = .returned (.string u) ∧ L u = [s] ∧ Below w.heap.size w w' := by
  have hcv : (convert 95 9 (.slice (some ⟨w.heap.size, 0, none⟩) 1 1)).run Tryd.prog (w.alloc (.cells #[.int .u8 (s.toNat : Int)] 5)) = .ok (.string ⟨#[s]⟩) (w.alloc (.cells #[.int .u8 (s.toNat : Int)] 5)) := by
    have := run_convert_bytes_back (P := Tryd.prog) (w.alloc (.cells #[.int .u8 (s.toNat : Int)] 5)) 95 9 5 ⟨w.heap.size, 0, none⟩ 1 [s] Tryd.underlying95 Tryd.underlying5 Tryd.underlying9 (fun j hj => by
      have h0 : j = 0 := by simpa using hj
      subst h0
      exact cell_one_new w _ _ 0 _ rfl)
    exact this
  go_enter Tryd.func85, Tryd.ntmps85
  go_wp2_with fail
  go_ret
  exact ⟨⟨#[s]⟩, rfl, rfl, (Below.refl _ _).alloc (Nat.le_refl _) _⟩

set_option maxHeartbeats 1000000 in
theorem bracketed_any (x : ByteArray) (r : Nat) (k : Int) (w : World) (hx : x.size ≤ 1000000) :
    Calls Tryd.prog 86 #[.agg #[.string x, .int .i64 (r : Int)], .int .i64 k] w fun e w' => ∃ u : ByteArray, e = .returned (.string u) ∧ L u = brk (L x, r) k.toNat ∧ Below w.heap.size w w' := by
  by_cases h : (r : Int) < k
  · have Hb : Hid (brk (L x, r) k.toNat = 40 :: (L x ++ [41])) := by show _ = _; unfold brk; rw [if_pos (by simp; omega)]
    go_enter Tryd.func86, Tryd.ntmps86
    go_wp2_with fail
    go_ret
    refine ⟨_, rfl, ?_, (Below.refl _ _).alloc (Nat.le_refl _) _⟩
    rw [unhide Hb]; simp [L]
  · have Hb : Hid (brk (L x, r) k.toNat = L x) := by show _ = _; unfold brk; rw [if_neg (by simp; omega)]
    go_enter Tryd.func86, Tryd.ntmps86
    go_wp2_with fail
    go_ret
    exact ⟨x, rfl, (unhide Hb).symm, (Below.refl _ _).alloc (Nat.le_refl _) _⟩

end Go.Proofs.YtdchbenfccofpaaDoor
namespace Db
open Go

/-- The sign that is worked out last, within brackets that stand round all of it. -/
inductive Tp : List UInt8 → Int → Prop
  | stop {l : List UInt8} (h : ¬ (cut l).1 = 40) : Tp l (cut l).1
  | into {l : List UInt8} {o : Int} (h : (cut l).1 = 40) (k : Tp (cut l).2.2 o) : Tp l o
theorem cut_par_lt (l : List UInt8) (h : (cut l).1 = 40) : (cut l).2.2.length < l.length := by
  unfold cut at h ⊢
  split
  · have := cutAt_lt l
    show (l.drop _).length < _
    rw [List.length_drop]
    omega
  · split
    · show (l.drop 1).length < _
      rw [List.length_drop]
      omega
    · split
      · show ((l.drop 1).take _).length < _
        rw [List.length_take, List.length_drop]
        omega
      · rename_i h1 h2 h3
        rw [if_neg h1, if_neg h2, if_neg h3] at h
        cases h
theorem wf_tp {n : Nat} : ∀ {e : List UInt8} {ps : List Pt} {o : Int}, Wf n e ps → Tp e o → ∃ x, ShowR ps x ∧ x.2 = rkO o := by
  induction n with
  | zero => intro e ps o h; exact absurd h (by simp [Wf])
  | succ n ih =>
    intro e ps o h ht
    rcases h with ⟨h1, h⟩ | ⟨h1, h2⟩ | ⟨h1, p, h2, rfl⟩ | ⟨h1, p, r, h2, h3, rfl⟩
    · obtain ⟨p, rfl, hp⟩ := opnd_opd h
      refine ⟨_, showR_leaf hp, ?_⟩
      cases ht with
      | stop _ => rw [h1]; rfl
      | into h _ => rw [h1] at h; cases h
    · cases ht with
      | stop h => exact absurd h1 h
      | into _ k => exact ih h2 k
    · obtain ⟨x, hx⟩ := wf_show h2
      refine ⟨_, showR_neg hx, ?_⟩
      cases ht with
      | stop _ => rw [h1]; rfl
      | into h _ => rw [h1] at h; cases h
    · obtain ⟨x, hx⟩ := wf_show h2
      obtain ⟨y, hy⟩ := wf_show h3
      refine ⟨_, showR_bin h1 hx hy, ?_⟩
      cases ht with
      | stop _ => rw [rkO_op h1]
      | into h _ => rw [h] at h1; cases h1
theorem wf_size {n : Nat} : ∀ {e : List UInt8} {ps : List Pt} {x : Pc}, Wf n e ps → ShowR ps x → x.1.length ≤ 25 * ps.length := by
  induction n with
  | zero => intro e ps x h; exact absurd h (by simp [Wf])
  | succ n ih =>
    intro e ps x h hx
    rcases h with ⟨h1, h⟩ | ⟨h1, h2⟩ | ⟨h1, p, h2, rfl⟩ | ⟨h1, p, r, h2, h3, rfl⟩
    · obtain ⟨p, rfl, hp⟩ := opnd_opd h
      rw [hx.uniq (showR_leaf hp), (opnd_word h).1]
      have : e.length ≤ 18 := by
        rcases h with ⟨_, h, _⟩ | ⟨c, ds, rfl, _, _, h, _⟩
        · exact h
        · rcases h with h | h <;> simp <;> omega
      have htl : ∀ l : List UInt8, (trm l).length ≤ l.length := by
        intro l
        induction l with
        | nil => simp [trm]
        | cons c t ih =>
          cases t with
          | nil => simp [trm]
          | cons d r =>
            unfold trm
            split
            · exact Nat.le_trans ih (by simp)
            · exact Nat.le_refl _
      have h3 := htl e
      have h4 := htl (e.drop 1)
      simp at h4
      split
      · simp; omega
      · simp; omega
    · exact ih h2 hx
    · obtain ⟨y, hy⟩ := wf_show h2
      rw [hx.uniq (showR_neg hy)]
      have := ih h2 hy
      have hb : (brk y 3).length ≤ y.1.length + 2 := by unfold brk; split <;> simp
      simp
      omega
    · obtain ⟨y, hy⟩ := wf_show h2
      obtain ⟨z, hz⟩ := wf_show h3
      rw [hx.uniq (showR_bin h1 hy hz)]
      have h5 := ih h2 hy
      have h6 := ih h3 hz
      have hb : (brk y (rkS (cut e).1)).length ≤ y.1.length + 2 := by unfold brk; split <;> simp
      have hc : (brk z (rkS (cut e).1 + 1)).length ≤ z.1.length + 2 := by unfold brk; split <;> simp
      simp
      omega
end Db
namespace Go.Proofs.YtdchbenfccofpaaDoor
open Go.RowKit Db

set_option maxHeartbeats 1000000 in
theorem top_any (n : Nat) : ∀ (s : ByteArray) (w : World), s.size < n → s.size ≤ 200 →
    Calls Tryd.prog 36 #[.string s] w fun e w' => ∃ o, e = .returned (.int .u8 o) ∧ Tp (L s) o ∧ ∃ m, w' = w.drewN m := by
  induction n with
  | zero => intro s w h; omega
  | succ n ih =>
    intro s w hn hs
    have Hih := hide ih
    clear ih
    go_enter Tryd.func36, Tryd.ntmps36
    go_wp2_with fail
    refine (cut_any s _ hs).mono ?_
    rintro e w1 ⟨o, l, r, rfl, ⟨hco, hcl, hcr⟩, m, rfl⟩
    by_cases h40 : o = 40
    · subst h40
      have hrs := cut_par_lt (L s) hco
      rw [← hcr, L_length, L_length] at hrs
      have Ht : Hid (∀ o, Tp (L r) o → Tp (L s) o) := fun o h => .into hco (by rw [← hcr]; exact h)
      clear hco hcl hcr
      go_wp2_with fail
      refine (unhide Hih r _ (by omega) (by omega)).mono ?_
      rintro e w2 ⟨o, rfl, ho, m2, rfl⟩
      have Ho := hide (unhide Ht o ho)
      clear ho
      go_wp2_with fail
      go_ret
      exact ⟨o, rfl, unhide Ho, m + m2, by simp [World.drewN]⟩
    · have n40 : (o == 40) = false := by simpa using h40
      have Ht : Hid (Tp (L s) o) := by show Tp _ _; rw [← hco] at h40 ⊢; exact .stop h40
      clear hco hcl hcr h40
      go_wp2_with fail
      go_ret
      exact ⟨o, rfl, unhide Ht, m, rfl⟩

end Go.Proofs.YtdchbenfccofpaaDoor
namespace Go.Proofs.YtdchbenfccofpaaDoor
open Go.RowKit Db

theorem retS {a b : ByteArray} (h : a = b) : Ending.returned (.string a) = .returned (.string b) := by rw [h]
theorem L_of (l : List UInt8) : L ⟨l.toArray⟩ = l := L_list l
theorem L_eq {u : ByteArray} {l : List UInt8} (h : L u = l) : u = ⟨l.toArray⟩ := L_inj (by rw [h, L_list])
theorem trm_le (l : List UInt8) : (trm l).length ≤ l.length := by
  induction l with
  | nil => simp [trm]
  | cons c t ih =>
    cases t with
    | nil => simp [trm]
    | cons d r =>
      unfold trm
      split
      · exact Nat.le_trans ih (by simp)
      · exact Nat.le_refl _
theorem trm_go (u : ByteArray) (h : 1 < u.size) (h0 : (u[0].toNat : Int) = 48) : trm (L (u.extract 1 u.size)) = trm (L u) := by
  have e : L u = u[0] :: (L u).drop 1 := by have := L_drop u 0 (by omega); simpa using this
  rw [L_extract]
  have h1 : ((L u).drop 1).take (u.size - 1) = (L u).drop 1 := List.take_of_length_le (by rw [List.length_drop, L_length]; omega)
  rw [h1]
  conv => rhs; rw [e]
  have e2 := L_drop u 1 h
  rw [e2]
  have h48 : u[0].toNat = 48 := by omega
  rw [trm, if_pos h48]
theorem trm_stop (u : ByteArray) (h : u.size ≤ 1) : trm (L u) = L u := by
  have hl := L_length u
  match hu : L u with
  | [] => rfl
  | [c] => rfl
  | c :: d :: r => rw [hu] at hl; simp at hl; omega
theorem trm_not (u : ByteArray) (h : 1 < u.size) (h0 : ¬ (u[0].toNat : Int) = 48) : trm (L u) = L u := by
  have e : L u = u[0] :: (L u).drop 1 := by have := L_drop u 0 (by omega); simpa using this
  have e2 := L_drop u 1 h
  rw [e2] at e
  rw [e, trm, if_neg (by omega)]

set_option maxHeartbeats 1000000 in
theorem trimmed_any (s : ByteArray) (w : World) :
    Calls Tryd.prog 66 #[.string s] w fun e w' => e = .returned (.string ⟨(trm (L s)).toArray⟩) ∧ w' = w := by
  go_enter Tryd.func66, Tryd.ntmps66
  go_wp2_with fail
  go_loopg [0] s.size (fun m v wr => ∃ u : ByteArray, m = u.size ∧ v = .string u ∧ u.size ≤ s.size ∧ Hid (trm (L u) = trm (L s)) ∧ wr = w)
  case atStart => exact ⟨s, rfl, rfl, Nat.le_refl _, rfl, rfl⟩
  case round =>
    obtain ⟨u, rfl, rfl, hus, Hu, rfl⟩ := hrel
    by_cases h1 : 1 < u.size
    · by_cases h0 : (u[0].toNat : Int) = 48
      · have Hg := hide ((trm_go u h1 h0).trans (unhide Hu))
        have b0 : ((u[0].toNat : Int) == 48) = true := by simpa using h0
        have hz : (u.extract 1 u.size).size = u.size - 1 := by simp
        clear h0
        go_wp2_with fail
        go_roundg (u.size - 1)
        case measure => omega
        case rel => exact ⟨u.extract 1 u.size, hz.symm, rfl, by omega, unhide Hg, rfl⟩
      · have Hg := hide ((trm_not u h1 h0).symm.trans (unhide Hu))
        have b0 : ((u[0].toNat : Int) == 48) = false := by simpa using h0
        clear h0
        go_wp2_with fail
        go_ret
        exact ⟨retS (L_eq (unhide Hg)), rfl⟩
    · have Hg := hide ((trm_stop u (by omega)).symm.trans (unhide Hu))
      have i1 : ¬ (1 : Int) < (u.size : Int) := by omega
      have i2 : decide ((1 : Int) < (u.size : Int)) = false := decide_eq_false i1
      go_wp2_with fail
      go_ret
      exact ⟨retS (L_eq (unhide Hg)), rfl⟩

set_option maxHeartbeats 1000000 in
theorem refOperand_any (s : ByteArray) (p : Pt) (w : World) (hs : s.size ≤ 200) (ho : Opnd (L s) [p]) :
    Calls Tryd.prog 37 #[.string s] w fun e w' => ∃ u : ByteArray, e = .returned (.string u) ∧ L u = wordP p ∧ ∃ m, w' = w.drewN m := by
  obtain ⟨h1, h2⟩ := opnd_word ho
  rw [L_length] at h2
  have hh : hd (L s) = (s[0].toNat : Int) := by have := L_drop s 0 (by omega); simp at this; rw [this]; rfl
  rw [hh] at h1
  have H1 := hide h1
  clear h1 hh ho
  go_enter Tryd.func37, Tryd.ntmps37
  go_wp2_with fail
  refine (digit_any (s[0].toNat : Int) _).mono ?_
  rintro e w1 ⟨rfl, rfl⟩
  cases hd : digB (s[0].toNat : Int) with
  | true =>
    have H2 : Hid (wordP p = trm (L s)) := by have := unhide H1; rw [hd] at this; exact this
    clear H1 hd
    go_wp2_with fail
    refine (trimmed_any s _).mono ?_
    rintro e w1 ⟨rfl, rfl⟩
    go_wp2_with fail
    go_ret
    exact ⟨_, rfl, by rw [L_of, unhide H2], 0, rfl⟩
  | false =>
    have H2 : Hid (wordP p = (L s).take 1 ++ trm ((L s).drop 1)) := by have := unhide H1; rw [hd] at this; exact this
    have ht : L (s.extract 1 s.size) = (L s).drop 1 := by rw [L_extract]; exact List.take_of_length_le (by rw [List.length_drop, L_length]; omega)
    have hsz : (s.extract 1 s.size).size ≤ 200 := by simp; omega
    obtain ⟨t, hteq⟩ : ∃ t : ByteArray, t = ⟨(trm (L (s.extract 1 s.size))).toArray⟩ := ⟨_, rfl⟩
    have hcall : ∀ wx, Calls Tryd.prog 66 #[.string (s.extract 1 s.size)] wx fun e w' => e = .returned (.string t) ∧ w' = wx := by
      intro wx; rw [hteq]; exact trimmed_any _ wx
    have hz2 : t.size ≤ 200 := by
      rw [hteq, size_L, L_of]
      refine Nat.le_trans (trm_le _) ?_
      rw [L_length]; exact hsz
    have htL : L t = trm ((L s).drop 1) := by rw [hteq, L_of, ht]
    have Ht := hide htL
    have i1 : (1 : Int) ≤ (s.size : Int) := by omega
    clear H1 hd ht htL hteq
    go_wp2_with fail
    go_quiet ((go_at_call 66; exact Calls.quiet_of_same (hcall _)))
    go_wp2_with fail
    go_ret
    refine ⟨_, rfl, ?_, _, rfl⟩
    rw [L_append, unhide H2, unhide Ht, L_extract]
    rfl

end Go.Proofs.YtdchbenfccofpaaDoor
namespace Go.Proofs.YtdchbenfccofpaaDoor
open Go.RowKit Db

/-- The contract of show, at depth n. -/
def ShowC (n : Nat) : Prop := ∀ (s : ByteArray) (ps : List Pt) (w : World), s.size ≤ 200 → Wf n (L s) ps → ps.length ≤ 200 →
    Calls Tryd.prog 14 #[.string s] w fun e w' => ∃ u : ByteArray, ∃ x : Pc, e = .returned (.string u) ∧ ShowR ps x ∧ L u = x.1 ∧ Below w.heap.size w w'
theorem show_size {n : Nat} {e : List UInt8} {ps : List Pt} {x : Pc} {u : ByteArray} (h : Wf n e ps) (hl : ps.length ≤ 200) (hx : ShowR ps x) (hu : L u = x.1) : u.size ≤ 5000 := by
  rw [size_L, hu]
  have := wf_size h hx
  omega
def wrp (b : Bool) (l : List UInt8) : List UInt8 := if b then 40 :: (l ++ [41]) else l
theorem wrp_brk {x : Pc} {b : Bool} {k : Nat} (h : b = decide (x.2 < k)) : wrp b x.1 = brk x k := by
  subst h; unfold wrp brk
  by_cases h : x.2 < k <;> simp [h]

set_option maxHeartbeats 1000000 in
theorem wrapped_any (n : Nat) (ih : ShowC n) (s : ByteArray) (b : Bool) (ps : List Pt) (w : World) (hs : s.size ≤ 200) (hw : Wf n (L s) ps) (hl : ps.length ≤ 200) :
    Calls Tryd.prog 38 #[.string s, .bool b] w fun e w' => ∃ u : ByteArray, ∃ x : Pc, e = .returned (.string u) ∧ ShowR ps x ∧ L u = wrp b x.1 ∧ u.size ≤ 5002 ∧ Below w.heap.size w w' := by
  have Hih := hide ih
  have Hw := hide hw
  clear ih hw
  go_enter Tryd.func38, Tryd.ntmps38
  go_wp2_with fail
  refine (unhide Hih s ps _ hs (unhide Hw) hl).mono ?_
  rintro e w1 ⟨u, x, rfl, hx, hu, hb⟩
  have hus := show_size (unhide Hw) hl hx hu
  have Hx := hide hx
  have Hu := hide hu
  have Hb := hide hb
  clear hx hu hb
  cases b with
  | true =>
    go_wp2_with fail
    go_ret
    refine ⟨_, x, rfl, unhide Hx, ?_, ?_, unhide Hb⟩
    · rw [L_append, L_append, unhide Hu]; rfl
    · rw [size_L, L_append, L_append, List.length_append, List.length_append, L_length u]
      show 1 + u.size + 1 ≤ _
      omega
  | false =>
    go_wp2_with fail
    go_ret
    exact ⟨u, x, rfl, unhide Hx, unhide Hu, by omega, unhide Hb⟩

end Go.Proofs.YtdchbenfccofpaaDoor
namespace Go.Proofs.YtdchbenfccofpaaDoor
open Go.RowKit Db

def sB (b : Int) : Bool := b == 43 || b == 45
def tB (b : Int) : Bool := b == 42 || b == 47
theorem sgn_cases (b : Int) : b = 43 ∨ b = 45 ∨ b = 42 ∨ b = 47 ∨ ((b == 43) = false ∧ (b == 45) = false ∧ (b == 42) = false ∧ (b == 47) = false) := by
  by_cases h1 : b = 43
  · exact .inl h1
  by_cases h2 : b = 45
  · exact .inr (.inl h2)
  by_cases h3 : b = 42
  · exact .inr (.inr (.inl h3))
  by_cases h4 : b = 47
  · exact .inr (.inr (.inr (.inl h4)))
  exact .inr (.inr (.inr (.inr ⟨by simpa using h1, by simpa using h2, by simpa using h3, by simpa using h4⟩)))
theorem rk3 (b : Int) : (sB b || tB b) = decide (rkO b < 3) := by
  rcases sgn_cases b with rfl | rfl | rfl | rfl | ⟨h1, h2, h3, h4⟩
  · rfl
  · rfl
  · rfl
  · rfl
  · simp [sB, tB, rkO, h1, h2, h3, h4]
theorem rk2 (b : Int) : sB b = decide (rkO b < 2) := by
  rcases sgn_cases b with rfl | rfl | rfl | rfl | ⟨h1, h2, h3, h4⟩
  · rfl
  · rfl
  · rfl
  · rfl
  · simp [sB, rkO, h1, h2, h3, h4]
theorem tp_zero {l : List UInt8} {o : Int} (hc : (cut l).1 = 0) (h : Tp l o) : o = 0 := by
  cases h with
  | stop _ => exact hc
  | into h _ => rw [hc] at h; cases h
theorem cut_nil : (cut []).1 = 0 := by decide

set_option maxHeartbeats 1000000 in
theorem show_leaf (s : ByteArray) (ps : List Pt) (w : World) (hs : s.size ≤ 200) (hcut : cut (L s) = (0, [], L s)) (hop : Opnd (L s) ps) :
    Calls Tryd.prog 14 #[.string s] w fun e w' => ∃ u : ByteArray, ∃ x : Pc, e = .returned (.string u) ∧ ShowR ps x ∧ L u = x.1 ∧ Below w.heap.size w w' := by
  obtain ⟨p, rfl, hp⟩ := opnd_opd hop
  have Hcut := hide hcut
  have Hop := hide hop
  have Hsh := hide (showR_leaf hp)
  clear hcut hop hp
  go_enter Tryd.func14, Tryd.ntmps14
  go_wp2_with fail
  refine (cut_any s _ hs).mono ?_
  rintro e w1 ⟨o, l, r, rfl, ⟨hco, hcl, hcr⟩, m, rfl⟩
  rw [unhide Hcut] at hco hcl hcr
  obtain rfl : r = s := L_inj hcr
  subst hco
  have hls : l.size ≤ 200 := by rw [size_L, hcl]; simp
  have Hl : Hid (∀ o, Tp (L l) o → o = 0) := by
    show ∀ o, _
    rw [hcl]
    exact fun o h => tp_zero cut_nil h
  have Hr : Hid (∀ o, Tp (L r) o → o = 0) := fun o h => tp_zero (by rw [unhide Hcut]) h
  clear hcl hcr Hcut
  go_wp2_with fail
  refine (top_any 201 l _ (by omega) hls).mono ?_
  rintro e w2 ⟨a, rfl, ha, m2, rfl⟩
  obtain rfl := unhide Hl a ha
  clear ha Hl
  go_wp2_with fail
  refine (top_any 201 r _ (by omega) hs).mono ?_
  rintro e w3 ⟨b, rfl, hb, m3, rfl⟩
  obtain rfl := unhide Hr b hb
  clear hb Hr
  go_wp2_with fail
  refine (refOperand_any r p _ hs (unhide Hop)).mono ?_
  rintro e w4 ⟨u, rfl, hu, m4, rfl⟩
  have Hu := hide hu
  clear hu
  go_wp2_with fail
  go_ret
  exact ⟨u, _, rfl, unhide Hsh, unhide Hu, (Below.refl _ _).drewN _⟩

set_option maxHeartbeats 1000000 in
theorem show_par (n : Nat) (ih : ShowC n) (s : ByteArray) (ps : List Pt) (w : World) (hs : s.size ≤ 200) (ho : (cut (L s)).1 = 40) (hw : Wf n (cut (L s)).2.2 ps) (hl : ps.length ≤ 200) :
    Calls Tryd.prog 14 #[.string s] w fun e w' => ∃ u : ByteArray, ∃ x : Pc, e = .returned (.string u) ∧ ShowR ps x ∧ L u = x.1 ∧ Below w.heap.size w w' := by
  have Hih := hide ih
  have Hw := hide hw
  have Ho := hide ho
  clear ih hw ho
  go_enter Tryd.func14, Tryd.ntmps14
  go_wp2_with fail
  refine (cut_any s _ hs).mono ?_
  rintro e w1 ⟨o, l, r, rfl, ⟨hco, hcl, hcr⟩, m, rfl⟩
  obtain rfl : (40 : Int) = o := (unhide Ho).symm.trans hco
  have Hr : Hid (Wf n (L r) ps) := by show Wf _ _ _; rw [hcr]; exact unhide Hw
  have hls : l.size ≤ 200 := Nat.le_trans (size_of_L hcl (cut_le (L s)).1) hs
  have hrs : r.size ≤ 200 := Nat.le_trans (size_of_L hcr (cut_le (L s)).2) hs
  clear hco hcl hcr Hw Ho
  go_wp2_with fail
  refine (top_any 201 l _ (by omega) hls).mono ?_
  rintro e w2 ⟨a, rfl, ha, m2, rfl⟩
  clear ha
  go_wp2_with fail
  refine (top_any 201 r _ (by omega) hrs).mono ?_
  rintro e w3 ⟨b, rfl, hb, m3, rfl⟩
  clear hb
  rcases sgn_cases b with rfl | rfl | rfl | rfl | ⟨h1, h2, h3, h4⟩
  all_goals
    go_wp2_with fail
    refine (unhide Hih r ps _ hrs (unhide Hr) hl).mono ?_
    rintro e w4 ⟨u, x, rfl, hx, hu, hb4⟩
    have Hx := hide hx
    have Hu := hide hu
    have Hb := hide hb4.undrewN
    clear hx hu hb4
    go_wp2_with fail
    go_ret
    exact ⟨u, x, rfl, unhide Hx, unhide Hu, unhide Hb⟩

set_option maxHeartbeats 1000000 in
theorem show_neg (n : Nat) (ih : ShowC n) (s : ByteArray) (ps : List Pt) (w : World) (hs : s.size ≤ 200) (ho : (cut (L s)).1 = 126) (hw : Wf n (cut (L s)).2.2 ps) (hl : ps.length ≤ 200) :
    Calls Tryd.prog 14 #[.string s] w fun e w' => ∃ u : ByteArray, ∃ x : Pc, e = .returned (.string u) ∧ ShowR (ps ++ [(126, 0)]) x ∧ L u = x.1 ∧ Below w.heap.size w w' := by
  have Hih := hide ih
  have Hw := hide hw
  have Ho := hide ho
  clear ih hw ho
  go_enter Tryd.func14, Tryd.ntmps14
  go_wp2_with fail
  refine (cut_any s _ hs).mono ?_
  rintro e w1 ⟨o, l, r, rfl, ⟨hco, hcl, hcr⟩, m, rfl⟩
  obtain rfl : (126 : Int) = o := (unhide Ho).symm.trans hco
  have Hr : Hid (Wf n (L r) ps) := by show Wf _ _ _; rw [hcr]; exact unhide Hw
  have hls : l.size ≤ 200 := Nat.le_trans (size_of_L hcl (cut_le (L s)).1) hs
  have hrs : r.size ≤ 200 := Nat.le_trans (size_of_L hcr (cut_le (L s)).2) hs
  clear hco hcl hcr Hw Ho
  go_wp2_with fail
  refine (top_any 201 l _ (by omega) hls).mono ?_
  rintro e w2 ⟨a, rfl, ha, m2, rfl⟩
  clear ha
  go_wp2_with fail
  refine (top_any 201 r _ (by omega) hrs).mono ?_
  rintro e w3 ⟨b, rfl, hb, m3, rfl⟩
  have HT : Hid (∀ x, ShowR ps x → ∀ k : Bool, k = (sB b || tB b) → ShowR (ps ++ [(126, 0)]) (45 :: wrp k x.1, 3)) := by
    intro x hx k hk
    obtain ⟨y, hy, hr⟩ := wf_tp (unhide Hr) hb
    obtain rfl := hx.uniq hy
    rw [wrp_brk (x := x) (k := 3) (by rw [hk, rk3, hr])]
    exact showR_neg hx
  clear hb
  rcases sgn_cases b with rfl | rfl | rfl | rfl | ⟨h1, h2, h3, h4⟩
  all_goals
    go_wp2_with fail
    refine (wrapped_any n (unhide Hih) r _ ps _ hrs (unhide Hr) hl).mono ?_
    rintro e w4 ⟨u, x, rfl, hx, hu, hus, hb4⟩
    first
      | have Hx := hide (unhide HT x hx true rfl)
      | have Hx := hide (unhide HT x hx false (by simp [sB, tB, h1, h2, h3, h4]))
    have Hu := hide hu
    have Hb := hide hb4.undrewN
    clear hx hu hb4
    go_wp2_with fail
    go_ret
    exact ⟨_, _, rfl, unhide Hx, by rw [L_append, unhide Hu]; rfl, unhide Hb⟩

end Go.Proofs.YtdchbenfccofpaaDoor
