/- Own texts of the theorem in YtdchbenfccofpaaGreatDoorWAlY, part 03. -/
import Derived.Test.YtdchbenfccofpaaGreatDoorJ02
import Derived.Test.YtdchbenfccofpaaGreatDoorJ01
import Derived.Deep.LoopGhost
import Derived.BigQuiet
import Derived.Deep.DeepCutAuto
import Derived.Deep.AppendLies
import Derived.Deep.RegionLaw
set_option maxRecDepth 100000
set_option maxHeartbeats 8000000
namespace Db
def opv (E : Pt → Cl) (p : Pt) : Cl := if p.1 == 48 then (p.2, 0) else E p
def vStep (E : Pt → Cl) : Option (List Cl) → Pt → Option (List Cl)
 | none, _ => none
 | some st, p => if opdB p.1 then some (opv E p :: st) else if p.1 == 126 then
     match st with
     | x :: t => some (don 45 (0, 0) x :: t)
     | [] => none
   else match st with
     | y :: x :: t => some (don p.1 x y :: t)
     | _ => none
def vev (E : Pt → Cl) (rs : List Pt) (s : Option (List Cl)) : Option (List Cl) := rs.foldr (fun p a => vStep E a p) s
theorem vev_cons (E : Pt → Cl) (p : Pt) (rs : List Pt) (s : Option (List Cl)) : vev E (p :: rs) s = vStep E (vev E rs s) p := rfl
theorem vev_rev (E : Pt → Cl) (ps : List Pt) (s : Option (List Cl)) : vev E ps.reverse s = ps.foldl (vStep E) s := by
 unfold vev; rw [List.foldr_reverse]
theorem vStep_num (E : Pt → Cl) (n : Int) (st : List Cl) : vStep E (some st) (48, n) = some ((n, 0) :: st) := rfl
def fld (p : Pt) (rs : List Pt) : Option (List Pt) :=
 if opdB p.1 then none else if p.1 == 126 then
  match rs with
  | y :: t => if y.1 == 48 && (don 45 (0, 0) (y.2, 0)).2 == 0 then some ((48, (don 45 (0, 0) (y.2, 0)).1) :: t) else none
  | [] => none
 else match rs with
  | y :: x :: t => if y.1 == 48 && x.1 == 48 && (don p.1 (x.2, 0) (y.2, 0)).2 == 0 then some ((48, (don p.1 (x.2, 0) (y.2, 0)).1) :: t) else none
  | _ => none
def lay (rs : List Pt) (p : Pt) : List Pt := (fld p rs).getD (p :: rs)
def cod (ps : List Pt) : List Pt := ps.foldl lay []
def Nf : List Pt → Prop
 | [] => True
 | p :: t => fld p t = none ∧ Nf t
theorem fld_some {p : Pt} {rs qs : List Pt} (h : fld p rs = some qs) : ∃ v t, qs = (48, v) :: t ∧ opdB p.1 = false ∧
  ((p.1 = 126 ∧ ∃ y, rs = (48, y) :: t ∧ don 45 (0, 0) (y, 0) = (v, 0)) ∨ ((p.1 == 126) = false ∧ ∃ x y, rs = (48, y) :: (48, x) :: t ∧ don p.1 (x, 0) (y, 0) = (v, 0))) := by
 unfold fld at h
 cases ho : opdB p.1 with
 | true => rw [ho] at h; cases h
 | false =>
  rw [ho] at h
  simp only [Bool.false_eq_true, if_false] at h
  cases hp : (p.1 == 126) with
  | true =>
   rw [hp] at h
   simp only [if_true] at h
   cases rs with
   | nil => cases h
   | cons y t =>
    obtain ⟨y1, y2⟩ := y
    simp only at h
    split at h
    ·rename_i hc
     simp only [Bool.and_eq_true, beq_iff_eq] at hc
     obtain ⟨rfl, hc⟩ := hc
     cases h
     exact ⟨_, t, rfl, rfl, .inl ⟨by simpa using hp, y2, rfl, Prod.ext rfl hc⟩⟩
    ·cases h
  | false =>
   rw [hp] at h
   simp only [Bool.false_eq_true, if_false] at h
   cases rs with
   | nil => cases h
   | cons y t =>
    cases t with
    | nil => cases h
    | cons x t =>
     obtain ⟨y1, y2⟩ := y
     obtain ⟨x1, x2⟩ := x
     simp only at h
     split at h
     ·rename_i hc
      simp only [Bool.and_eq_true, beq_iff_eq] at hc
      obtain ⟨⟨rfl, rfl⟩, hc⟩ := hc
      cases h
      exact ⟨_, t, rfl, rfl, .inr ⟨rfl, x2, y2, rfl, Prod.ext rfl hc⟩⟩
     ·cases h
theorem vev_lay (E : Pt → Cl) (rs : List Pt) (p : Pt) (s : Option (List Cl)) : vev E (lay rs p) s = vStep E (vev E rs s) p := by
 unfold lay
 cases h : fld p rs with
 | none => rfl
 | some qs =>
  obtain ⟨v, t, rfl, ho, ⟨hp, y, rfl, hv⟩ | ⟨hp, x, y, rfl, hv⟩⟩ := fld_some h
  ·simp only [Option.getD_some, vev_cons]
   cases vev E t s with
   | none => rfl
   | some st => rw [vStep_num, vStep_num]; simp [vStep, hp, hv, show opdB 126 = false from rfl]
  ·simp only [Option.getD_some, vev_cons]
   cases vev E t s with
   | none => rfl
   | some st => rw [vStep_num, vStep_num, vStep_num]; simp [vStep, ho, hp, hv]
theorem vev_cod (E : Pt → Cl) (s : Option (List Cl)) : ∀ (ps rs : List Pt), vev E (ps.foldl lay rs) s = ps.foldl (vStep E) (vev E rs s)
 | [], _ => rfl
 | p :: ps, rs => by rw [List.foldl_cons, List.foldl_cons, vev_cod E s ps, vev_lay]
theorem nf_lay {rs : List Pt} (p : Pt) (h : Nf rs) : Nf (lay rs p) := by
 unfold lay
 cases hf : fld p rs with
 | none => exact ⟨hf, h⟩
 | some qs =>
  obtain ⟨v, t, rfl, ho, ⟨hp, y, rfl, hv⟩ | ⟨hp, x, y, rfl, hv⟩⟩ := fld_some hf
  ·exact ⟨rfl, h.2⟩
  ·exact ⟨rfl, h.2.2⟩
theorem nf_cod : ∀ (ps : List Pt) {rs : List Pt}, Nf rs → Nf (ps.foldl lay rs)
 | [], _, h => h
 | p :: ps, _, h => nf_cod ps (nf_lay p h)
theorem len_lay (rs : List Pt) (p : Pt) : (lay rs p).length ≤ rs.length + 1 := by
 unfold lay
 cases hf : fld p rs with
 | none => simp
 | some qs =>
  obtain ⟨v, t, rfl, ho, ⟨hp, y, rfl, hv⟩ | ⟨hp, x, y, rfl, hv⟩⟩ := fld_some hf <;> simp <;> omega
theorem len_cod : ∀ (ps rs : List Pt), (ps.foldl lay rs).length ≤ rs.length + ps.length
 | [], rs => by simp
 | p :: ps, rs => by
  have h1 := len_cod ps (lay rs p)
  have h2 := len_lay rs p
  rw [List.foldl_cons, List.length_cons]; omega
theorem all_lay {P : Pt → Prop} (hP : ∀ v, inR v = true → P (48, v)) {rs : List Pt} {p : Pt} (h : ∀ x ∈ rs, P x) (hp : P p) : ∀ x ∈ lay rs p, P x := by
 unfold lay
 have hd : ∀ {o : Int} {x y v : Int}, don o (x, 0) (y, 0) = (v, 0) → inR v = true := by
  intro o x y v e
  have hc : ∀ u, chk u = (v, 0) → inR v = true := by
   intro u e
   unfold chk at e
   split at e
   ·rename_i hu; cases e; exact hu
   ·cases e
  unfold don at e
  simp only [beq_self_eq_true, if_true] at e
  repeat' split at e
  all_goals first | exact hc _ e | cases e
 cases hf : fld p rs with
 | none =>
  intro x hx
  rcases List.mem_cons.1 hx with rfl | hx
  ·exact hp
  ·exact h x hx
 | some qs =>
  obtain ⟨v, t, rfl, ho, ⟨hp, y, rfl, hv⟩ | ⟨hp, x, y, rfl, hv⟩⟩ := fld_some hf
  ·intro x hx
   rcases List.mem_cons.1 hx with rfl | hx
   ·exact hP _ (hd hv)
   ·exact h x (by simp [hx])
  ·intro x hx
   rcases List.mem_cons.1 hx with rfl | hx
   ·exact hP _ (hd hv)
   ·exact h x (by simp [hx])
theorem all_cod {P : Pt → Prop} (hP : ∀ v, inR v = true → P (48, v)) : ∀ (ps : List Pt) {rs : List Pt}, (∀ x ∈ rs, P x) → (∀ x ∈ ps, P x) → ∀ x ∈ ps.foldl lay rs, P x
 | [], _, h, _ => h
 | p :: ps, _, h, k => all_cod hP ps (all_lay hP h (k p (by simp))) (fun x hx => k x (by simp [hx]))
def ValR (E : Pt → Cl) (ps : List Pt) (c : Cl) : Prop := ∀ st, ps.foldl (vStep E) (some st) = some (c :: st)
theorem valR_leaf (E : Pt → Cl) {p : Pt} (h : opdB p.1 = true) : ValR E [p] (opv E p) := fun st => by simp [vStep, h]
theorem valR_neg {E : Pt → Cl} {ps : List Pt} {c : Cl} (h : ValR E ps c) : ValR E (ps ++ [(126, 0)]) (don 45 (0, 0) c) := fun st => by
 rw [List.foldl_append, h]; rfl
theorem valR_bin {E : Pt → Cl} {p q : List Pt} {x y : Cl} {o : Int} (ho : opB o = true) (hp : ValR E p x) (hq : ValR E q y) : ValR E (p ++ q ++ [(o, 0)]) (don o x y) := fun st => by
 rw [List.foldl_append, List.foldl_append, hp, hq]
 have := opd_op ho
 simp [vStep, this.1, this.2]
theorem ValR.uniq {E : Pt → Cl} {ps : List Pt} {x y : Cl} (h : ValR E ps x) (k : ValR E ps y) : x = y := by
 have h1 := h []
 rw [k []] at h1
 simpa using h1.symm
theorem wf_val (E : Pt → Cl) {n : Nat} : ∀ {e : List UInt8} {ps : List Pt}, Wf n e ps → ∃ c, ValR E ps c := by
 induction n with
 | zero => intro e ps h; exact absurd h (by simp [Wf])
 | succ n ih =>
  intro e ps h
  rcases h with ⟨_, h⟩ | ⟨_, h2⟩ | ⟨_, p, h2, rfl⟩ | ⟨h1, p, r, h2, h3, rfl⟩
  ·obtain ⟨p, rfl, hp⟩ := opnd_opd h
   exact ⟨_, valR_leaf E hp⟩
  ·exact ih h2
  ·obtain ⟨x, hx⟩ := ih h2
   exact ⟨_, valR_neg hx⟩
  ·obtain ⟨x, hx⟩ := ih h2
   obtain ⟨y, hy⟩ := ih h3
   exact ⟨_, valR_bin h1 hx hy⟩
theorem cod_val {E : Pt → Cl} {ps : List Pt} {c : Cl} (h : ValR E ps c) : (cod ps).reverse.foldl (vStep E) (some []) = some [c] := by
 have := vev_cod E (some []) ps []
 rw [← vev_rev, List.reverse_reverse]
 exact this.trans (h [])
def wth (acs : List Ac) (n : Int) : Nat → Int → Bool
 | 0, _ => false
 | f + 1, a => if a < 0 then false else if a == n then true else wth acs n f (acs.getD a.toNat (0, false)).1
def tkL (q : Int → Bool) : List Ln → Int × Int
 | [] => (0, 0)
 | l :: r => if q l.1 then (l.2 + (tkL q r).1, 1 + (tkL q r).2) else tkL q r
def tkT (q : Int → Bool) (a b : Int) : List Tn → Int × Int
 | [] => (0, 0)
 | t :: r => if a ≤ t.2.1 ∧ t.2.1 ≤ b then ((tkL q t.2.2).1 + (tkT q a b r).1, (tkL q t.2.2).2 + (tkT q a b r).2) else tkT q a b r
def inA (s : Bk) (sel n a : Int) : Bool := if sel == 33 then a == n else wth s.acs n 16 a
def opE (s : Bk) (pd : List (Int × Int)) (cells : List (List Cl)) (k : Nat) (p : Pt) : Cl :=
 if p.1 == 36 then (cells.getD p.2.toNat []).getD k (0, 0)
 else if p.1 == 60 then (if k = 0 then (0, 0) else (cells.getD p.2.toNat []).getD (k - 1) (0, 0))
 else if p.1 == 35 then ((tkT (inA s p.1 p.2) (pd.getD k (0, 0)).1 (pd.getD k (0, 0)).2 s.txs).2, 0)
 else ((tkT (inA s p.1 p.2) (pd.getD k (0, 0)).1 (pd.getD k (0, 0)).2 s.txs).1, 0)
def celO (o : Option (List Cl)) : Cl := (o.getD []).headD (0, 0)
def cel (E : Pt → Cl) (ps : List Pt) : Cl := celO (ps.foldl (vStep E) (some []))
def rowC (s : Bk) (pd : List (Int × Int)) (cells : List (List Cl)) (ps : List Pt) : List Cl := (List.range pd.length).map fun k => cel (opE s pd cells k) ps
def shC (s : Bk) (pd : List (Int × Int)) (pss : List (List Pt)) : List (List Cl) := pss.foldl (fun cells ps => cells ++ [rowC s pd cells ps]) []
theorem cel_val {E : Pt → Cl} {ps : List Pt} {c : Cl} (h : ValR E ps c) : cel E ps = c := by
 unfold cel; rw [h []]; rfl
theorem val_cel {E : Pt → Cl} {ps : List Pt} {n : Nat} {e : List UInt8} (h : Wf n e ps) : ValR E ps (cel E ps) := by
 obtain ⟨c, hc⟩ := wf_val E h
 rw [cel_val hc]; exact hc
theorem tkL_le (q : Int → Bool) (ls : List Ln) (h : ∀ l ∈ ls, -1000000000000 ≤ l.2 ∧ l.2 ≤ 1000000000000) :
  -(1000000000000 * (ls.length : Int)) ≤ (tkL q ls).1 ∧ (tkL q ls).1 ≤ 1000000000000 * (ls.length : Int) ∧ 0 ≤ (tkL q ls).2 ∧ (tkL q ls).2 ≤ ls.length := by
 induction ls with
 | nil => simp [tkL]
 | cons l r ih =>
  have h1 := h l (by simp)
  have h2 := ih (fun x hx => h x (by simp [hx]))
  simp only [tkL, List.length_cons]
  split <;> (try simp only) <;> omega
theorem tkT_le (q : Int → Bool) (a b : Int) (ts : List Tn) (h : ∀ t ∈ ts, t.2.2.length ≤ 4 ∧ ∀ l ∈ t.2.2, -1000000000000 ≤ l.2 ∧ l.2 ≤ 1000000000000) :
  -(4000000000000 * (ts.length : Int)) ≤ (tkT q a b ts).1 ∧ (tkT q a b ts).1 ≤ 4000000000000 * (ts.length : Int) ∧ 0 ≤ (tkT q a b ts).2 ∧ (tkT q a b ts).2 ≤ 4 * (ts.length : Int) := by
 induction ts with
 | nil => simp [tkT]
 | cons t r ih =>
  have h1 := h t (by simp)
  have h2 := ih (fun x hx => h x (by simp [hx]))
  have h3 := tkL_le q t.2.2 h1.2
  simp only [tkT, List.length_cons]
  split <;> (try simp only) <;> omega
theorem tkL_step {q : Int → Bool} {l : List Ln} {j : Nat} {t : Ln} (h : l[j]? = some t) : tkL q (l.drop j) = if q t.1 then (t.2 + (tkL q (l.drop (j + 1))).1, 1 + (tkL q (l.drop (j + 1))).2) else tkL q (l.drop (j + 1)) := by
 obtain ⟨hi, rfl⟩ := List.getElem?_eq_some_iff.1 h
 rw [List.drop_eq_getElem_cons hi]; rfl
theorem tkT_step {q : Int → Bool} {a b : Int} {l : List Tn} {j : Nat} {t : Tn} (h : l[j]? = some t) : tkT q a b (l.drop j) = if a ≤ t.2.1 ∧ t.2.1 ≤ b then ((tkL q t.2.2).1 + (tkT q a b (l.drop (j + 1))).1, (tkL q t.2.2).2 + (tkT q a b (l.drop (j + 1))).2) else tkT q a b (l.drop (j + 1)) := by
 obtain ⟨hi, rfl⟩ := List.getElem?_eq_some_iff.1 h
 rw [List.drop_eq_getElem_cons hi]; rfl
theorem tkL_congr {q r : Int → Bool} (ls : List Ln) (h : ∀ l ∈ ls, q l.1 = r l.1) : tkL q ls = tkL r ls := by
 induction ls with
 | nil => rfl
 | cons l t ih => simp only [tkL, h l (by simp), ih (fun x hx => h x (by simp [hx]))]
theorem tkT_congr {q r : Int → Bool} {a b : Int} (ts : List Tn) (h : ∀ t ∈ ts, ∀ l ∈ t.2.2, q l.1 = r l.1) : tkT q a b ts = tkT r a b ts := by
 induction ts with
 | nil => rfl
 | cons t u ih => simp only [tkT, tkL_congr t.2.2 (h t (by simp)), ih (fun x hx => h x (by simp [hx]))]
theorem tkL_bal (n : Int) (ls : List Ln) : (tkL (fun a => a == n) ls).1 = balL n ls := by
 induction ls with
 | nil => rfl
 | cons l t ih =>
  simp only [tkL, balL]
  split
  ·rw [← ih]
  ·rw [← ih]; simp
theorem tkT_bal (n : Int) (ts : List Tn) (h : ∀ t ∈ ts, 0 ≤ t.2.1 ∧ t.2.1 ≤ 999) : (tkT (fun a => a == n) 0 999 ts).1 = balT n ts := by
 induction ts with
 | nil => rfl
 | cons t u ih =>
  simp only [tkT, balT]
  rw [if_pos (h t (by simp)), ← tkL_bal, ← ih (fun x hx => h x (by simp [hx]))]
def chsB (n : Int) (ch : List Bool) (c : Ac) : Bool := (decide (0 ≤ c.1) && decide (c.1 < ch.length) && ch.getD c.1.toNat false) || decide ((ch.length : Int) = n)
def chs (n : Int) (acs : List Ac) : List Bool := acs.foldl (fun ch c => ch ++ [chsB n ch c]) []
theorem chs_snoc (n : Int) (acs : List Ac) (c : Ac) : chs n (acs ++ [c]) = chs n acs ++ [chsB n (chs n acs) c] := by simp [chs]
theorem chs_len (n : Int) (acs : List Ac) : (chs n acs).length = acs.length := by
 have key : ∀ (l : List Ac) (ch : List Bool), (l.foldl (fun ch c => ch ++ [chsB n ch c]) ch).length = ch.length + l.length := by
  intro l
  induction l with
  | nil => intro ch; rfl
  | cons c t ih => intro ch; rw [List.foldl_cons, ih]; simp; omega
 have := key acs []
 simpa [chs] using this
theorem wth_at (acs : List Ac) (n : Int) (f : Nat) (a : Int) : wth acs n (f + 1) a = if a < 0 then false else if a == n then true else wth acs n f (acs.getD a.toNat (0, false)).1 := rfl
theorem wth_more (acs : List Ac) (n : Int) (ho : ∀ (i : Nat) c, acs[i]? = some c → c.1 < i) : ∀ (f g : Nat) (a : Int), a < f → a < g → a < acs.length → wth acs n f a = wth acs n g a := by
 intro f
 induction f with
 | zero => intro g a hf hg hl; cases g with
  | zero => rfl
  | succ g => simp only [wth]; rw [if_pos (by omega)]
 | succ f ih =>
  intro g a hf hg hl
  cases g with
  | zero => simp only [wth]; rw [if_pos (by omega)]
  | succ g =>
   simp only [wth]
   split
   ·rfl
   ·split
    ·rfl
    ·rename_i h0 h1
     obtain ⟨c, hc⟩ : ∃ c, acs[a.toNat]? = some c := ⟨acs[a.toNat]'(by omega), List.getElem?_eq_getElem (by omega)⟩
     have hlt := ho _ _ hc
     rw [List.getD_eq_getElem?_getD, hc, Option.getD_some]
     exact ih g c.1 (by omega) (by omega) (by omega)
theorem chs_get (acs : List Ac) (n : Int) (ho : ∀ (i : Nat) c, acs[i]? = some c → c.1 < i) (h16 : acs.length ≤ 16) : ∀ (m : Nat), m ≤ acs.length → ∀ i : Nat, i < m → (chs n (acs.take m)).getD i false = wth acs n 16 i := by
 intro m
 induction m with
 | zero => intro _ i hi; omega
 | succ m ih =>
  intro hm i hi
  have hml : m < acs.length := by omega
  obtain ⟨c, hc⟩ : ∃ c, acs[m]? = some c := ⟨acs[m], List.getElem?_eq_getElem hml⟩
  have ht : acs.take (m + 1) = acs.take m ++ [c] := by rw [List.take_add_one, hc]; rfl
  have hlen : (chs n (acs.take m)).length = m := by rw [chs_len, List.length_take]; omega
  rw [ht, chs_snoc]
  by_cases him : i < m
  ·have h2 := ih (by omega) i him
   rw [List.getD_eq_getElem?_getD] at h2 ⊢
   rw [List.getElem?_append_left (by rw [hlen]; exact him)]
   exact h2
  ·obtain rfl : i = m := by omega
   rw [List.getD_eq_getElem?_getD, List.getElem?_append_right (by rw [hlen]; exact Nat.le_refl _), hlen, Nat.sub_self]
   simp only [List.getElem?_cons_zero, Option.getD_some]
   have hord := ho _ _ hc
   unfold chsB
   rw [hlen]
   rw [show (16 : Nat) = 15 + 1 from rfl, wth_at, if_neg (by omega)]
   by_cases hn : (i : Int) = n
   ·rw [if_pos (by simpa using hn)]; simp [hn]
   ·rw [if_neg (by simpa using hn)]
    rw [Int.toNat_natCast, List.getD_eq_getElem?_getD (l := acs), hc, Option.getD_some]
    by_cases h0 : c.1 < 0
    ·have : wth acs n 15 c.1 = false := by simp only [wth]; rw [if_pos h0]
     rw [this]
     simp [hn]; omega
    ·have h2 := ih (by omega) c.1.toNat (by omega)
     rw [h2, show ((c.1.toNat : Nat) : Int) = c.1 by omega, wth_more acs n ho (15 + 1) 15 c.1 (by omega) (by omega) (by omega)]
     simp [hn]
     have a1 : 0 ≤ c.1 := by omega
     simp [a1, hord]
theorem chs_all {s : Bk} (h : BkGood s) (n : Int) (i : Nat) (hi : i < s.acs.length) : (chs n s.acs).getD i false = wth s.acs n 16 i := by
 have := chs_get s.acs n h.ord h.few s.acs.length (Nat.le_refl _) i hi
 rwa [List.take_length] at this
def inC (ch : List Bool) (a : Int) : Bool := decide (0 ≤ a) && decide (a < ch.length) && ch.getD a.toNat false
def chO (n : Int) (m : Nat) : List Bool := (List.range m).map fun i : Nat => decide ((i : Int) = n)
theorem tk_chs {s : Bk} (h : BkGood s) (n a b : Int) : tkT (inC (chs n s.acs)) a b s.txs = tkT (wth s.acs n 16) a b s.txs := by
 refine tkT_congr _ ?_
 intro t ht l hl
 have h1 := (h.tx t ht).2.2.2.2.2 l hl
 have h2 := h.acc t ht l hl
 unfold inC
 have := chs_all h n l.1.toNat (by omega)
 rw [this, chs_len, show ((l.1.toNat : Nat) : Int) = l.1 by omega]
 have a1 : 0 ≤ l.1 := by omega
 simp [a1, h2]
theorem tk_chO {s : Bk} (h : BkGood s) (n a b : Int) : tkT (inC (chO n s.acs.length)) a b s.txs = tkT (fun x => x == n) a b s.txs := by
 refine tkT_congr _ ?_
 intro t ht l hl
 have h1 := (h.tx t ht).2.2.2.2.2 l hl
 have h2 := h.acc t ht l hl
 have a1 : 0 ≤ l.1 := by omega
 unfold inC chO
 have hl1 : l.1.toNat < s.acs.length := by omega
 simp [a1, h2, List.getD_eq_getElem?_getD, Bool.beq_eq_decide_eq]
 omega
def tkO (ok : Bool) (q : Int → Bool) (ls : List Ln) : Int × Int := if ok then tkL q ls else (0, 0)
theorem tkO_yes {ok : Bool} {q : Int → Bool} {l : List Ln} {j : Nat} {t : Ln} (h : l[j]? = some t) (hok : ok = true) (hq : q t.1 = true) : (tkO ok q (l.drop j)).1 = t.2 + (tkO ok q (l.drop (j + 1))).1 ∧ (tkO ok q (l.drop j)).2 = 1 + (tkO ok q (l.drop (j + 1))).2 := by
 unfold tkO
 rw [hok, if_pos rfl, if_pos rfl, tkL_step h, hq, if_pos rfl]
 exact ⟨rfl, rfl⟩
theorem tkO_no {ok : Bool} {q : Int → Bool} {l : List Ln} {j : Nat} {t : Ln} (h : l[j]? = some t) (hq : q t.1 = false ∨ ok = false) : (tkO ok q (l.drop j)).1 = (tkO ok q (l.drop (j + 1))).1 ∧ (tkO ok q (l.drop j)).2 = (tkO ok q (l.drop (j + 1))).2 := by
 unfold tkO
 rcases hq with hq | hq
 ·rw [tkL_step h, hq]
  exact ⟨rfl, rfl⟩
 ·rw [hq]; exact ⟨rfl, rfl⟩
theorem tkO_end (ok : Bool) (q : Int → Bool) (l : List Ln) : tkO ok q (l.drop l.length) = (0, 0) := by
 rw [List.drop_length]; unfold tkO; split <;> rfl
def inD (a b d : Int) : Bool := decide (a ≤ d) && decide (d ≤ b)
theorem tkT_O {q : Int → Bool} {a b : Int} {l : List Tn} {j : Nat} {t : Tn} (h : l[j]? = some t) : (tkT q a b (l.drop j)).1 = (tkO (inD a b t.2.1) q t.2.2).1 + (tkT q a b (l.drop (j + 1))).1 ∧ (tkT q a b (l.drop j)).2 = (tkO (inD a b t.2.1) q t.2.2).2 + (tkT q a b (l.drop (j + 1))).2 := by
 rw [tkT_step h]
 unfold tkO inD
 by_cases h1 : a ≤ t.2.1 ∧ t.2.1 ≤ b
 ·rw [if_pos h1, if_pos (by simp [h1])]; exact ⟨rfl, rfl⟩
 ·rw [if_neg h1, if_neg (by simpa using h1)]; simp
end Db
namespace Go.Proofs.YtdchbenfccofpaaGreatDoor
open Go.RowKit Db
structure MvSt (w wr : World) (x c : Int) : Prop where
 res : Blk wr w.heap.size #[.int .i64 0, .int .i64 0] 213
 mv : Blk wr (w.heap.size + 1) #[.int .i64 x, .int .i64 c] 213
 bel : Below w.heap.size w wr
theorem MvSt.alloc {w wr : World} {x c : Int} (h : MvSt w wr x c) (o : Obj) : MvSt w (wr.alloc o) x c := ⟨h.res.alloc o, h.mv.alloc o, h.bel.alloc h.bel.size o⟩
theorem MvSt.add {w wr : World} {x c : Int} (h : MvSt w wr x c) (y d : Int) : MvSt w ((wr.setCell ⟨w.heap.size + 1, 0, none⟩ (.int .i64 y)).setCell ⟨w.heap.size + 1, 1, none⟩ (.int .i64 d)) y d := by
 refine ⟨(h.res.setOther _ _ (by simp)).setOther _ _ (by simp), ?_, (h.bel.setCell (by simp) _).setCell (by simp) _⟩
 have := (h.mv.set 0 (.int .i64 y)).set 1 (.int .i64 d)
 simpa using this
theorem MvSt.new (w : World) : MvSt w ((w.alloc (.cells #[.int .i64 0, .int .i64 0] 213)).alloc (.cells #[.int .i64 0, .int .i64 0] 213)) 0 0 := by
 refine ⟨(Blk.new _ _ _).alloc _, ?_, ((Below.refl _ _).alloc (Nat.le_refl _) _).alloc (by simp) _⟩
 have := Blk.new (w.alloc (.cells #[.int .i64 0, .int .i64 0] 213)) #[.int .i64 0, .int .i64 0] 213
 simpa using this
theorem inC_no {ch : List Bool} {a : Int} (h : a < 0 ∨ (ch.length : Int) ≤ a) : inC ch a = false := by
 unfold inC
 rcases h with h | h
 ·have : ¬ 0 ≤ a := by omega
  simp [this]
 ·have : ¬ a < ch.length := by omega
  simp [this]
theorem inC_at {ch : List Bool} {k : Nat} {v : Bool} (h : ch[k]? = some v) : inC ch (k : Int) = v := by
 have hl : k < ch.length := (List.getElem?_eq_some_iff.1 h).1
 unfold inC
 rw [Int.toNat_natCast, List.getD_eq_getElem?_getD, h]
 simp; omega
theorem movement_any (B p B2 : Nat) (s : Bk) (vc : Value) (ch : List Bool) (a b : Int) (w : World) (h : Led w B p s) (hch : w.ownsRow B2 4 1 vc ch.length (ch.map .bool)) (hc16 : ch.length ≤ 16) :
   Calls Tryz.prog 185 #[.pointer (some ⟨p, 0, none⟩), vc, .int .i64 a, .int .i64 b] w fun e w' => e = .returned (.agg #[.int .i64 (tkT (inC ch) a b s.txs).1, .int .i64 (tkT (inC ch) a b s.txs).2]) ∧ Below w.heap.size w w' := by
 obtain ⟨va, vt, tv, dk, h⟩ := h
 obtain ⟨ao, cap, rfl⟩ := oForm h.txs.own
 obtain ⟨aoc, capc, rfl⟩ := oForm hch
 have c1 := h.blk.cell 1
 have hpl := h.blk.lt
 simp only [List.getElem?_toArray, List.getElem?_cons_zero, List.getElem?_cons_succ] at c1
 have hlen : tv.length ≤ 64 := by have := h.good.posts; rw [← h.jr, List.length_map] at this; exact this
 have Hjr := hI h.jr
 obtain ⟨q, hq⟩ : ∃ q, inC ch = q := ⟨_, rfl⟩
 have Hq := hI hq
 rw [hq]
 have H := hI h
 have Hch := hI hch
 clear h hq hch
 go_enter Tryz.func185, Tryz.ntmps185
 go_wp2_with fail
 obtain ⟨W0, hW0⟩ : ∃ W0, (w.alloc (.cells #[.int .i64 0, .int .i64 0] 213)).alloc (.cells #[.int .i64 0, .int .i64 0] 213) = W0 := ⟨_, rfl⟩
 have HM0 : Hid (MvSt w W0 0 0) := by rw [← hW0]; exact MvSt.new w
 rw [hW0]
 clear hW0
 go_loopg [21] tv.length (fun m i wr => ∃ j : Nat, ∃ x : Int, ∃ c : Int, j ≤ tv.length ∧ m = tv.length - j ∧ i = .int .i64 j ∧ -(4000000000000 * (j : Int)) ≤ x ∧ x ≤ 4000000000000 * (j : Int) ∧ 0 ≤ c ∧ c ≤ 4 * (j : Int) ∧ Hid (x + (tkT q a b (s.txs.drop j)).1 = (tkT q a b s.txs).1 ∧ c + (tkT q a b (s.txs.drop j)).2 = (tkT q a b s.txs).2) ∧ Hid (MvSt w wr x c))
 case atStart => exact ⟨0, 0, 0, by omega, rfl, rfl, by omega, by omega, by omega, by omega, ⟨by simp, by simp⟩, HM0.u⟩
 case round =>
   obtain ⟨j, x, c, hj, rfl, rfl, hx0, hx1, hc0, hc1, Ho, Hm⟩ := hrel
   have hsz := Hm.u.bel.size
   by_cases hlt : j < tv.length
   · obtain ⟨⟨t, v⟩, ht⟩ : ∃ t, tv[j]? = some t := ⟨tv[j], List.getElem?_eq_getElem hlt⟩
     obtain ⟨g, _, e1, hg, hg'⟩ := oSome H.u.txs.own (by omega)
     simp only [Value.slice.injEq, true_and] at e1
     obtain ⟨rfl, rfl⟩ := e1
     have h3 := three_get (fun x : Tn × Value => Value.int .i64 x.1.1) (fun x => .int .i64 x.1.2.1) (fun x => x.2) tv j (t, v) ht
     have hro := oBelow H.u.txs.own Hm.u.bel
     have d0 := oCell hro (j := j * 3) h3.1
     have d1 := oCell hro (j := j * 3 + 1) h3.2.1
     have d2 := oCell hro (j := j * 3 + 2) h3.2.2
     have hmem := List.mem_of_getElem? ht
     have hl := H.u.txs.lns _ hmem
     have hst : s.txs[j]? = some t := by rw [← Hjr.u, List.getElem?_map, ht]; rfl
     have hgt := H.u.good.tx t (List.mem_of_getElem? hst)
     have Hst := hI (tkT_O (q := q) (a := a) (b := b) hst)
     obtain ⟨ti, td, ls⟩ := t
     simp only at d0 d1 d2 hl hgt Hst
     obtain ⟨aol, capl, rfl⟩ := oForm hl
     have hl4 := hgt.2.2.2.2.1
     have Hlb := hI hgt.2.2.2.2.2
     have Hl := hI hl
     clear h3 hro hmem hl hst hgt ht
     obtain ⟨ok, hok⟩ : ∃ ok, inD a b td = ok := ⟨_, rfl⟩
     rw [hok] at Hst
     have Hno : Hid (ok = false → x + (tkT q a b (s.txs.drop (j + 1))).1 = (tkT q a b s.txs).1 ∧ c + (tkT q a b (s.txs.drop (j + 1))).2 = (tkT q a b s.txs).2) := by
       intro h0
       have h1 := Ho.u
       have h2 := Hst.u
       rw [h0] at h2
       simp only [tkO, Bool.false_eq_true, if_false] at h2
       omega
     by_cases e1 : td < a
     · have Hn := hI (Hno.u (by rw [← hok]; unfold inD; have : ¬ a ≤ td := (by omega); simp [this]))
       go_wp2_with fail
       go_roundg (tv.length - (j + 1))
       case measure => omega
       case rel => exact ⟨j + 1, x, c, by omega, rfl, by go_num, by omega, by omega, by omega, by omega, Hn.u, Hm.u.alloc _⟩
     by_cases e2 : b < td
     · have Hn := hI (Hno.u (by rw [← hok]; unfold inD; have : ¬ td ≤ b := (by omega); simp [this]))
       go_wp2_with fail
       go_roundg (tv.length - (j + 1))
       case measure => omega
       case rel => exact ⟨j + 1, x, c, by omega, rfl, by go_num, by omega, by omega, by omega, by omega, Hn.u, Hm.u.alloc _⟩
     obtain rfl : ok = true := by rw [← hok]; unfold inD; have h1 : a ≤ td := by omega
                                  have h2 : td ≤ b := by omega
                                  simp [h1, h2]
     clear Hno hok
     go_wp2_with fail
     obtain ⟨W, hW⟩ : ∃ W, W = wr.alloc (.cells #[.int .i64 ti, .int .i64 td, .slice aol ls.length capl] 148) := ⟨_, rfl⟩
     have HmW : Hid (MvSt w W x c) := by rw [hW]; exact Hm.u.alloc _
     rw [← hW]
     clear hW
     go_loopg [38] ls.length (fun m i wx => ∃ k : Nat, ∃ y : Int, ∃ z : Int, k ≤ ls.length ∧ m = ls.length - k ∧ i = .int .i64 k ∧ -(4000000000000 * (j : Int)) - 1000000000000 * (k : Int) ≤ y ∧ y ≤ 4000000000000 * (j : Int) + 1000000000000 * (k : Int) ∧ 0 ≤ z ∧ z ≤ 4 * (j : Int) + k ∧ Hid (y + (tkO true q (ls.drop k)).1 = x + (tkO true q ls).1 ∧ z + (tkO true q (ls.drop k)).2 = c + (tkO true q ls).2) ∧ Hid (MvSt w wx y z))
     case atStart => exact ⟨0, x, c, by omega, rfl, rfl, by omega, by omega, by omega, by omega, ⟨by simp, by simp⟩, HmW.u⟩
     case round =>
       obtain ⟨k, y, z, hk, rfl, rfl, hy0, hy1, hz0, hz1, Hy, Hmx⟩ := hrel
       have hszx := Hmx.u.bel.size
       have m0 := Hmx.u.mv.cell 0
       have m1 := Hmx.u.mv.cell 1
       have y0 := Hmx.u.mv.frozen 0
       have y1 := Hmx.u.mv.frozen 1
       have lm := Hmx.u.mv.lt
       simp only [List.getElem?_toArray, List.getElem?_cons_zero, List.getElem?_cons_succ] at m0 m1
       by_cases hlt2 : k < ls.length
       · obtain ⟨⟨la, lm⟩, hlk⟩ : ∃ l, ls[k]? = some l := ⟨ls[k], List.getElem?_eq_getElem hlt2⟩
         obtain ⟨g2, _, e1, hg2, hg2'⟩ := oSome Hl.u (by omega)
         simp only [Value.slice.injEq, true_and] at e1
         obtain ⟨rfl, rfl⟩ := e1
         have h2 := two_get (fun x : Ln => Value.int .i64 x.1) (fun x => .int .i64 x.2) ls k (la, lm) hlk
         have hlx := oBelow Hl.u Hmx.u.bel
         have f0 := oCell hlx (j := k * 2) h2.1
         have f1 := oCell hlx (j := k * 2 + 1) h2.2
         clear hlx
         have hb := Hlb.u (la, lm) (List.mem_of_getElem? hlk)
         have Hyes := hI (tkO_yes (ok := true) (q := q) hlk)
         have Hno := hI (tkO_no (ok := true) (q := q) hlk)
         simp only at f0 f1 hb Hyes Hno
         have hwr : IntKind.i64.wrap (y + lm) = y + lm := by rw [IntKind.wrap_i64]; omega
         have hwz : IntKind.i64.wrap (z + 1) = z + 1 := by rw [IntKind.wrap_i64]; omega
         have Hlm : Hid (lm ≤ 1000000000000 ∧ -1000000000000 ≤ lm) := ⟨hb.2.2.2, hb.2.2.1⟩
         obtain ⟨n, rfl⟩ : ∃ n : Nat, la = n := ⟨la.toNat, by omega⟩
         clear h2 hlk hb
         by_cases hin : n < ch.length
         · obtain ⟨v, hv⟩ : ∃ v, ch[n]? = some v := ⟨ch[n], List.getElem?_eq_getElem hin⟩
           obtain ⟨gc, _, e1, hgc, hgc'⟩ := oSome Hch.u (by omega)
           simp only [Value.slice.injEq, true_and] at e1
           obtain ⟨rfl, rfl⟩ := e1
           have hcc := oBelow Hch.u Hmx.u.bel
           have fc := oCell hcc (j := n) (u := .bool v) (by rw [List.getElem?_map, hv]; rfl)
           have Hqv : Hid (q (n : Int) = v) := by show _ = _; rw [← Hq.u]; exact inC_at hv
           have ncl : (n : Int) < (ch.length : Int) := by omega
           have hgl : gc < wr.heap.size := by omega
           clear hcc hv
           cases v with
           | true =>
             have Hn := hI (Hyes.u (by simp) Hqv.u)
             go_wp2_with fail
             go_roundg (ls.length - (k + 1))
             case measure => omega
             case rel => exact ⟨k + 1, y + lm, z + 1, by omega, rfl, by go_num, by have := Hlm.u; omega, by have := Hlm.u; omega, by omega, by omega, by have h1 := Hy.u; have h2 := Hn.u; show _ ∧ _; omega, ((Hmx.u.add _ _).alloc _)⟩
           | false =>
             have Hn := hI (Hno.u (.inl Hqv.u))
             go_wp2_with fail
             go_roundg (ls.length - (k + 1))
             case measure => omega
             case rel => exact ⟨k + 1, y, z, by omega, rfl, by go_num, by omega, by omega, by omega, by omega, by have h1 := Hy.u; have h2 := Hn.u; show _ ∧ _; omega, Hmx.u.alloc _⟩
         · have Hqv : Hid (q (n : Int) = false) := by show _ = _; rw [← Hq.u]; exact inC_no (.inr (by omega))
           have Hn := hI (Hno.u (.inl Hqv.u))
           have ncl : ¬ (n : Int) < (ch.length : Int) := by omega
           go_wp2_with fail
           go_roundg (ls.length - (k + 1))
           case measure => omega
           case rel => exact ⟨k + 1, y, z, by omega, rfl, by go_num, by omega, by omega, by omega, by omega, by have h1 := Hy.u; have h2 := Hn.u; show _ ∧ _; omega, Hmx.u.alloc _⟩
       · obtain rfl : k = ls.length := by omega
         have hyy : y = x + (tkO true q ls).1 ∧ z = c + (tkO true q ls).2 := by have := Hy.u; rw [tkO_end] at this; simpa using this
         have Ho2 : Hid (y + (tkT q a b (s.txs.drop (j + 1))).1 = (tkT q a b s.txs).1 ∧ z + (tkT q a b (s.txs.drop (j + 1))).2 = (tkT q a b s.txs).2) := by
           have h1 := Ho.u
           have h2 := Hst.u
           show _ ∧ _
           omega
         clear hyy
         go_wp2_with fail
         go_roundg (tv.length - (j + 1))
         case measure => omega
         case rel => exact ⟨j + 1, y, z, by omega, rfl, by go_num, by omega, by omega, by omega, by omega, Ho2.u, Hmx.u⟩
   · obtain rfl : j = tv.length := by omega
     have Hfin : Hid (x = (tkT q a b s.txs).1 ∧ c = (tkT q a b s.txs).2) := by
       have := Ho.u
       rw [List.drop_of_length_le (by rw [← Hjr.u, List.length_map]; exact Nat.le_refl _)] at this
       show _ ∧ _
       simpa [tkT] using this
     have m0 := Hm.u.mv.cell 0
     have m1 := Hm.u.mv.cell 1
     have r0 := Hm.u.res.cell 0
     have r1 := Hm.u.res.cell 1
     have y0 := Hm.u.res.frozen 0
     have y1 := Hm.u.res.frozen 1
     have lr := Hm.u.res.lt
     simp only [List.getElem?_toArray, List.getElem?_cons_zero, List.getElem?_cons_succ] at m0 m1 r0 r1
     go_wp2_with fail
     refine bodyPost_ret (v := .agg #[.int .i64 x, .int .i64 c]) (by simp [results, Tryz.results185, go_sem, r0, r1]) rfl ⟨?_, ?_⟩
     · rw [Hfin.u.1, Hfin.u.2]
     · exact (Hm.u.bel.setCell (by simp) _).setCell (by simp) _
theorem info_bool : (Tryz.prog.info? 4).map (fun i => (i.zero, i.size, i.bytes)) = some (some (.bool false), 1, 1) := by kernel_rfl
def aloneM (s : Bk) (n a b : Int) : Int × Int := tkT (fun x => x == n) a b s.txs
def belowM (s : Bk) (n a b : Int) : Int × Int := tkT (wth s.acs n 16) a b s.txs
structure ChSt (w wr : World) (v : Value) (ch : List Bool) : Prop where
 res : Blk wr w.heap.size #[.int .i64 0, .int .i64 0] 213
 own : wr.ownsRow (w.heap.size + 1) 4 1 v ch.length (ch.map .bool)
 bel : Below w.heap.size w wr
theorem ChSt.new (w : World) : ChSt w (w.alloc (.cells #[.int .i64 0, .int .i64 0] 213)) (.slice none 0 0) [] :=
 ⟨Blk.new _ _ _, World.ownsRow_nil _ _ _ _, (Below.refl _ _).alloc (Nat.le_refl _) _⟩
theorem ChSt.alloc {w wr : World} {v : Value} {ch : List Bool} (h : ChSt w wr v ch) (o : Obj) : ChSt w (wr.alloc o) v ch := ⟨h.res.alloc o, h.own.alloc o, h.bel.alloc h.bel.size o⟩
theorem ChSt.push {w wr w5 : World} {v v' : Value} {ch : List Bool} {x : Bool} {o : Obj} (h : ChSt w wr v ch) (hown : w5.ownsRow (w.heap.size + 1) 4 1 v' (ch.length + 1) (ch.map .bool ++ [.bool x])) (hgr : (wr.alloc o).grownBy w5 v.ownBlock) : ChSt w w5 v' (ch ++ [x]) := by
 refine ⟨(h.res.alloc o).grown hgr (fun e => ?_), by simpa using hown, (h.bel.alloc h.bel.size o).grown hgr (by have := h.bel.size; simp; omega) (fun g hg => ?_)⟩
 ·have := (h.own.lt _ e.symm).1; omega
 ·have := (h.own.lt g hg).1; omega
theorem cell_one_at (w : World) (n : Nat) (hn : n = w.heap.size) (x : Value) (t : TypeId) : ∀ j u, [x][j]? = some u → (w.alloc (.cells #[x] t)).cell? ((⟨n, 0, none⟩ : Addr).add j) = some u := by
 subst hn; exact cell_one_new _ _ _
theorem chO_snoc (n : Int) (m : Nat) : chO n (m + 1) = chO n m ++ [decide ((m : Int) = n)] := by
 unfold chO; rw [List.range_succ, List.map_append]; rfl
theorem chO_len (n : Int) (m : Nat) : (chO n m).length = m := by simp [chO]
theorem beq_dec (a b : Int) : (a == b) = decide (a = b) := by
 by_cases h : a = b <;> simp [h]
theorem alone_any (B p : Nat) (s : Bk) (n a b : Int) (w : World) (h : Led w B p s) :
  Calls Tryz.prog 141 #[.pointer (some ⟨p, 0, none⟩), .int .i64 n, .int .i64 a, .int .i64 b] w fun e w' => e = .returned (.agg #[.int .i64 (aloneM s n a b).1, .int .i64 (aloneM s n a b).2]) ∧ Below w.heap.size w w' := by
 obtain ⟨va, vt, tv, dk, h⟩ := h
 obtain ⟨ii, hi, hz0, hz1, hz2⟩ := info_parts info_bool
 obtain ⟨g, cap, rfl, hg, hg'⟩ := oSome h.acs h.good.one
 have c0 := h.blk.cell 0
 have hpl := h.blk.lt
 simp only [List.getElem?_toArray, List.getElem?_cons_zero] at c0
 have hfew := h.good.few
 have H := hI h
 clear h
 go_enter Tryz.func141, Tryz.ntmps141
 go_wp2_with fail
 go_loopg [9, 16] s.acs.length (fun m v i wr => ∃ j : Nat, j ≤ s.acs.length ∧ m = s.acs.length - j ∧ i = .int .i64 j ∧ Hid (ChSt w wr v (chO n j)))
 case atStart => exact ⟨0, by omega, rfl, rfl, ChSt.new w⟩
 case round =>
  obtain ⟨j, hj, rfl, rfl, Hc⟩ := hrel
  obtain ⟨aov, capv, hv⟩ := oForm Hc.u.own
  rw [chO_len] at hv
  subst hv
  have hszc := Hc.u.bel.size
  have hlen := chO_len n j
  by_cases hlt : j < s.acs.length
  ·have hd := beq_dec (j : Int) n
   go_wp2_with (first
    | (at_builtin; refine wpList_append_own _ rfl (.tmp 19) (.tmp 23) 60 rfl (w.heap.size + 1) 4 ii (.bool false) 1 1 Tryz.underlying60 hi hz0 hz1 hz2 rfl (by decide) (.slice aov j capv) j _ rfl (by have := Hc.u.own.alloc (.cells #[.bool ((j : Int) == n)] 4); rw [hlen] at this; exact this) ⟨wr.heap.size, 0, none⟩ 1 1 [.bool ((j : Int) == n)] rfl rfl (cell_one_new _ _ _) (fun x hx => by simp at hx; subst hx; rfl) (by unfold maxLen; omega) (by omega) (by simp; omega) ?_; intro v' w5 hown5 hgr5 _))
   have Hc5 : Hid (ChSt w w5 v' (chO n (j + 1))) := by
    rw [chO_snoc]
    have h1 := hown5
    rw [hd] at h1
    exact Hc.u.push (by rw [hlen]; exact h1) hgr5
   clear hown5 hgr5
   go_wp2_with fail
   go_roundg (s.acs.length - (j + 1))
   case measure => omega
   case rel => exact ⟨j + 1, by omega, rfl, by go_num, Hc5.u⟩
  ·obtain rfl : j = s.acs.length := by omega
   have Hm := hI (movement_any B p (w.heap.size + 1) s _ (chO n s.acs.length) a b wr ⟨_, _, _, _, H.u.kept Hc.u.bel⟩ Hc.u.own (by rw [hlen]; exact hfew))
   rw [tk_chO H.u.good] at Hm
   have r0 := Hc.u.res.cell 0
   have r1 := Hc.u.res.cell 1
   simp only [List.getElem?_toArray, List.getElem?_cons_zero, List.getElem?_cons_succ] at r0 r1
   go_wp2_with fail
   refine Hm.u.mono ?_
   rintro e w2 ⟨rfl, hb2⟩
   have HR := hI (Hc.u.res.kept hb2)
   obtain ⟨r0, r1, z0, z1, lr⟩ := two_cells HR.u
   have Hb2 := hI (Hc.u.bel.then' hszc hb2)
   clear hb2 Hm
   go_wp2_with fail
   refine bodyPost_ret (v := .agg #[.int .i64 (aloneM s n a b).1, .int .i64 (aloneM s n a b).2]) (by simp [results, Tryz.results141, go_sem, r0, r1, aloneM]) rfl ⟨rfl, ?_⟩
   exact (Hb2.u.setCell (by simp) _).setCell (by simp) _
theorem below_any (B p : Nat) (s : Bk) (n a b : Int) (w : World) (h : Led w B p s) :
  Calls Tryz.prog 216 #[.pointer (some ⟨p, 0, none⟩), .int .i64 n, .int .i64 a, .int .i64 b] w fun e w' => e = .returned (.agg #[.int .i64 (belowM s n a b).1, .int .i64 (belowM s n a b).2]) ∧ Below w.heap.size w w' := by
 obtain ⟨va, vt, tv, dk, h⟩ := h
 obtain ⟨ii, hi, hz0, hz1, hz2⟩ := info_parts info_bool
 obtain ⟨g, cap, rfl, hg, hg'⟩ := oSome h.acs h.good.one
 have c0 := h.blk.cell 0
 have hpl := h.blk.lt
 simp only [List.getElem?_toArray, List.getElem?_cons_zero] at c0
 have hfew := h.good.few
 have H := hI h
 clear h
 go_enter Tryz.func216, Tryz.ntmps216
 go_wp2_with fail
 go_loopg [9, 18] s.acs.length (fun m v i wr => ∃ j : Nat, j ≤ s.acs.length ∧ m = s.acs.length - j ∧ i = .int .i64 j ∧ Hid (ChSt w wr v (chs n (s.acs.take j))))
 case atStart => exact ⟨0, by omega, rfl, rfl, ChSt.new w⟩
 case round =>
  obtain ⟨j, hj, rfl, rfl, Hc⟩ := hrel
  obtain ⟨aov, capv, hv⟩ := oForm Hc.u.own
  have hlen : (chs n (s.acs.take j)).length = j := by rw [chs_len, List.length_take]; omega
  rw [hlen] at hv
  subst hv
  have hszc := Hc.u.bel.size
  by_cases hlt : j < s.acs.length
  ·obtain ⟨⟨cp, cx⟩, hc⟩ := acs_get hlt
   have hro := oBelow H.u.acs Hc.u.bel
   have h2 := two_get (fun a : Ac => Value.int .i64 a.1) (fun a => .bool a.2) s.acs j (cp, cx) hc
   have d1 := oCell hro (j := j * 2) h2.1
   have d2 := oCell hro (j := j * 2 + 1) h2.2
   have hgl : g < wr.heap.size := by omega
   simp only at d1 d2
   obtain ⟨bw, hbw⟩ : ∃ bw, inC (chs n (s.acs.take j)) cp = bw := ⟨_, rfl⟩
   obtain ⟨r, hr⟩ : ∃ r, (bw || decide ((j : Int) = n)) = r := ⟨_, rfl⟩
   have hch : chs n (s.acs.take (j + 1)) = chs n (s.acs.take j) ++ [r] := by
    rw [List.take_add_one, hc]
    simp only [Option.toList_some]
    rw [chs_snoc]
    congr 2
    unfold chsB
    rw [hlen, ← hr, ← hbw]
    unfold inC
    rw [hlen]
   have Hch := hI hch
   have hd := beq_dec (j : Int) n
   have hcase : (cp < 0 ∧ bw = false) ∨ (0 ≤ cp ∧ (j : Int) ≤ cp ∧ bw = false) ∨ (∃ k : Nat, cp = k ∧ k < j ∧ (chs n (s.acs.take j))[k]? = some bw) := by
    by_cases h1 : cp < 0
    ·exact .inl ⟨h1, by rw [← hbw]; exact inC_no (.inl h1)⟩
    ·by_cases h3 : (j : Int) ≤ cp
     ·exact .inr (.inl ⟨by omega, h3, by rw [← hbw]; exact inC_no (.inr (by rw [hlen]; exact h3))⟩)
     ·obtain ⟨k, rfl⟩ : ∃ k : Nat, cp = k := ⟨cp.toNat, by omega⟩
      refine .inr (.inr ⟨k, rfl, by omega, ?_⟩)
      have hkl : k < (chs n (s.acs.take j)).length := by omega
      rw [List.getElem?_eq_getElem hkl, ← hbw]
      rw [inC_at (List.getElem?_eq_getElem hkl)]
   have Hr : Hid (r = (bw || ((j : Int) == n))) := by show _ = _; rw [hd, hr]
   have HL : Hid (∀ u : Bool, (bw || ((j : Int) == n)) = u → r = u) := fun u hu => by rw [Hr.u, hu]
   have Hgo : Hid (∀ (v' : Value) (w5 : World) (o : Obj), w5.ownsRow (w.heap.size + 1) 4 1 v' (j + 1) ((chs n (s.acs.take j)).map .bool ++ [.bool r]) → ((wr.alloc (.cells #[.int .i64 cp, .bool cx] 143)).alloc o).grownBy w5 (Value.slice aov j capv).ownBlock → ChSt w w5 v' (chs n (s.acs.take (j + 1)))) := by
    intro v' w5 o h1 h2
    rw [Hch.u]
    exact (Hc.u.alloc _).push (by rw [hlen]; exact h1) h2
   have Hown := hI Hc.u.own
   rw [hlen] at Hown
   clear hro h2 hc hch hr hbw
   rcases hcase with ⟨h1, rfl⟩ | ⟨h1, h3, rfl⟩ | ⟨k, rfl, hkj, hkv⟩
   ·have hneg : ¬ 0 ≤ cp := by omega
    have hrr : r = ((j : Int) == n) := by have := Hr.u; simpa using this
    go_wp2_with (first
     | (at_builtin; refine wpList_append_own _ rfl (.tmp 40) (.tmp 47) 60 rfl (w.heap.size + 1) 4 ii (.bool false) 1 1 Tryz.underlying60 hi hz0 hz1 hz2 rfl (by decide) (.slice aov j capv) j _ rfl ((Hown.u.alloc _).alloc _) ⟨wr.heap.size + 1, 0, none⟩ 1 1 [.bool ((j : Int) == n)] rfl rfl (cell_one_at _ _ (by simp) _ _) (fun x hx => by simp at hx; subst hx; rfl) (by unfold maxLen; omega) (by omega) (by simp; omega) ?_; intro v' w5 hown5 hgr5 _))
    have Hc5 : Hid (ChSt w w5 v' (chs n (s.acs.take (j + 1)))) := Hgo.u v' w5 _ (by rw [hrr]; exact hown5) hgr5
    clear hown5 hgr5
    go_wp2_with fail
    go_roundg (s.acs.length - (j + 1))
    case measure => omega
    case rel => exact ⟨j + 1, by omega, rfl, by go_num, Hc5.u⟩
   ·have hge : ¬ cp < (j : Int) := by omega
    have hrr : r = ((j : Int) == n) := by have := Hr.u; simpa using this
    go_wp2_with (first
     | (at_builtin; refine wpList_append_own _ rfl (.tmp 40) (.tmp 47) 60 rfl (w.heap.size + 1) 4 ii (.bool false) 1 1 Tryz.underlying60 hi hz0 hz1 hz2 rfl (by decide) (.slice aov j capv) j _ rfl ((Hown.u.alloc _).alloc _) ⟨wr.heap.size + 1, 0, none⟩ 1 1 [.bool ((j : Int) == n)] rfl rfl (cell_one_at _ _ (by simp) _ _) (fun x hx => by simp at hx; subst hx; rfl) (by unfold maxLen; omega) (by omega) (by simp; omega) ?_; intro v' w5 hown5 hgr5 _))
    have Hc5 : Hid (ChSt w w5 v' (chs n (s.acs.take (j + 1)))) := Hgo.u v' w5 _ (by rw [hrr]; exact hown5) hgr5
    clear hown5 hgr5
    go_wp2_with fail
    go_roundg (s.acs.length - (j + 1))
    case measure => omega
    case rel => exact ⟨j + 1, by omega, rfl, by go_num, Hc5.u⟩
   ·obtain ⟨gv, capv', e1, hgv, hgv'⟩ := oSome Hown.u (by omega)
    simp only [Value.slice.injEq, true_and] at e1
    obtain ⟨rfl, rfl⟩ := e1
    have dk := oCell Hown.u (j := k) (u := .bool bw) (by rw [List.getElem?_map, hkv]; rfl)
    have hkj' : (k : Int) < (j : Int) := by omega
    clear hkv
    cases bw with
    | true =>
     have hrr : r = true := by have := Hr.u; simpa using this
     go_wp2_with (first
      | (at_builtin; refine wpList_append_own _ rfl (.tmp 40) (.tmp 47) 60 rfl (w.heap.size + 1) 4 ii (.bool false) 1 1 Tryz.underlying60 hi hz0 hz1 hz2 rfl (by decide) (.slice (some ⟨gv, 0, none⟩) j capv) j _ rfl ((Hown.u.alloc _).alloc _) ⟨wr.heap.size + 1, 0, none⟩ 1 1 [.bool true] rfl rfl (cell_one_at _ _ (by simp) _ _) (fun x hx => by simp at hx; subst hx; rfl) (by unfold maxLen; omega) (by omega) (by simp; omega) ?_; intro v' w5 hown5 hgr5 _))
     have Hc5 : Hid (ChSt w w5 v' (chs n (s.acs.take (j + 1)))) := Hgo.u v' w5 _ (by rw [hrr]; exact hown5) hgr5
     clear hown5 hgr5
     go_wp2_with fail
     go_roundg (s.acs.length - (j + 1))
     case measure => omega
     case rel => exact ⟨j + 1, by omega, rfl, by go_num, Hc5.u⟩
    | false =>
     have hrr : r = ((j : Int) == n) := by have := Hr.u; simpa using this
     go_wp2_with (first
      | (at_builtin; refine wpList_append_own _ rfl (.tmp 40) (.tmp 47) 60 rfl (w.heap.size + 1) 4 ii (.bool false) 1 1 Tryz.underlying60 hi hz0 hz1 hz2 rfl (by decide) (.slice (some ⟨gv, 0, none⟩) j capv) j _ rfl ((Hown.u.alloc _).alloc _) ⟨wr.heap.size + 1, 0, none⟩ 1 1 [.bool ((j : Int) == n)] rfl rfl (cell_one_at _ _ (by simp) _ _) (fun x hx => by simp at hx; subst hx; rfl) (by unfold maxLen; omega) (by omega) (by simp; omega) ?_; intro v' w5 hown5 hgr5 _))
     have Hc5 : Hid (ChSt w w5 v' (chs n (s.acs.take (j + 1)))) := Hgo.u v' w5 _ (by rw [hrr]; exact hown5) hgr5
     clear hown5 hgr5
     go_wp2_with fail
     go_roundg (s.acs.length - (j + 1))
     case measure => omega
     case rel => exact ⟨j + 1, by omega, rfl, by go_num, Hc5.u⟩
  ·obtain rfl : j = s.acs.length := by omega
   have htk : s.acs.take s.acs.length = s.acs := List.take_length
   have Hc' := hI Hc.u
   rw [htk] at Hc' hlen
   have Hm := hI (movement_any B p (w.heap.size + 1) s _ (chs n s.acs) a b wr ⟨_, _, _, _, H.u.kept Hc.u.bel⟩ Hc'.u.own (by rw [hlen]; exact hfew))
   rw [tk_chs H.u.good] at Hm
   have r0 := Hc.u.res.cell 0
   have r1 := Hc.u.res.cell 1
   simp only [List.getElem?_toArray, List.getElem?_cons_zero, List.getElem?_cons_succ] at r0 r1
   clear htk
   go_wp2_with fail
   refine Hm.u.mono ?_
   rintro e w2 ⟨rfl, hb2⟩
   have HR := hI (Hc.u.res.kept hb2)
   obtain ⟨r0, r1, z0, z1, lr⟩ := two_cells HR.u
   have Hb2 := hI (Hc.u.bel.then' hszc hb2)
   clear hb2 Hm
   go_wp2_with fail
   refine bodyPost_ret (v := .agg #[.int .i64 (belowM s n a b).1, .int .i64 (belowM s n a b).2]) (by simp [results, Tryz.results216, go_sem, r0, r1, belowM]) rfl ⟨rfl, ?_⟩
   exact (Hb2.u.setCell (by simp) _).setCell (by simp) _
theorem own_set {w : World} {B g n cap i : Nat} {e : TypeId} {size : Nat} {xs : List Value} (h : w.ownsRow B e size (.slice (some ⟨g, 0, none⟩) n cap) n xs) (v : Value) :
  (w.setCell ⟨g, i, none⟩ v).ownsRow B e size (.slice (some ⟨g, 0, none⟩) n cap) n (xs.set i v) := by
 refine ⟨by rw [List.length_set]; exact h.1, ?_⟩
 rcases h.2 with ⟨h0, _⟩ | ⟨g', cap', cur, h0, hB, hg, hn, hc, hs, ht⟩
 ·cases h0
 ·simp only [Value.slice.injEq, Option.some.injEq, Addr.mk.injEq, and_true, true_and] at h0
  obtain ⟨rfl, rfl⟩ := h0
  refine .inr ⟨g, cap, cur.setIfInBounds i v, rfl, hB, ?_, hn, hc, by simpa using hs, ?_⟩
  ·simp [World.setCell, Array.getElem?_modify, hg]
  ·rw [Array.toList_setIfInBounds, List.take_set, ht]
theorem flat2_set {α : Type} (f g : α → Value) (b : α) (l : List α) : ∀ (k : Nat) (a : α), l[k]? = some a → f b = f a → (l.set k b).flatMap (fun x => [f x, g x]) = (l.flatMap fun x => [f x, g x]).set (k * 2 + 1) (g b) := by
 induction l with
 | nil => intro k a h; simp at h
 | cons x t ih =>
  intro k a h hf
  cases k with
  | zero => simp at h; subst h; simp [hf]
  | succ k =>
   simp only [List.getElem?_cons_succ] at h
   have := ih k a h hf
   simp only [List.set_cons_succ, List.flatMap_cons, List.cons_append, List.nil_append]
   rw [this, show (k + 1) * 2 = (k * 2 + 1) + 1 by omega]
   simp
theorem cellsA_shut {l : List Ac} {k : Nat} {c : Ac} (h : l[k]? = some c) : cellsA (l.set k (c.1, true)) = (cellsA l).set (k * 2 + 1) (.bool true) :=
 flat2_set (fun a : Ac => Value.int .i64 a.1) (fun a => .bool a.2) (c.1, true) l k c h rfl
theorem LedAt.shut {w : World} {B p g cap k : Nat} {vt : Value} {tv : List (Tn × Value)} {d : Dk} {s : Bk} {c : Ac} (h : LedAt w B p (.slice (some ⟨g, 0, none⟩) s.acs.length cap) vt tv d s) (hc : s.acs[k]? = some c) (hg : BkGood { s with acs := s.acs.set k (c.1, true) }) (hcn : cnt s ≤ cnt { s with acs := s.acs.set k (c.1, true) }) :
  LedAt (w.setCell ⟨g, k * 2 + 1, none⟩ (.bool true)) B p (.slice (some ⟨g, 0, none⟩) s.acs.length cap) vt tv d { s with acs := s.acs.set k (c.1, true) } ∧ FrT B tP w (w.setCell ⟨g, k * 2 + 1, none⟩ (.bool true)) := by
 have ht := oTg h.acs g rfl
 have f1 : FrT B [143] w (w.setCell ⟨g, k * 2 + 1, none⟩ (.bool true)) := (FrT.refl _ _ w).setCell (T := 143) (by simp) ht.2 ht.1 _
 refine ⟨⟨h.blk.frT f1 (by decide), h.lo, ?_, h.txs.frT f1 (by decide) (by decide), h.jr, hg, oFrT h.dsk f1 (by decide), h.dlen, Nat.le_trans h.dcnt hcn⟩, f1.mono (by simp [tP])⟩
 simp only [List.length_set]
 rw [cellsA_shut hc]
 exact own_set h.acs _
theorem cls_none {s : Bk} {a : Int} (h : ther s a = false ∨ a = 0) : cls s a = (7, s) := by unfold cls; rw [if_pos h]
theorem cls_shut {s : Bk} {a : Int} (h : ther s a = true) (h0 : ¬ a = 0) (hc : clsd s a = true) : cls s a = (8, s) := by unfold cls; rw [if_neg (by simp [h, h0]), if_pos hc]
theorem cls_open {s : Bk} {a : Int} (h : ther s a = true) (h0 : ¬ a = 0) (hc : clsd s a = false) (ho : opb a s.acs = true) : cls s a = (9, s) := by unfold cls; rw [if_neg (by simp [h, h0]), if_neg (by simp [hc]), if_pos ho]
theorem cls_bal {s : Bk} {a : Int} (h : ther s a = true) (h0 : ¬ a = 0) (hc : clsd s a = false) (ho : opb a s.acs = false) (hb : ¬ balT a s.txs = 0) : cls s a = (10, s) := by unfold cls; rw [if_neg (by simp [h, h0]), if_neg (by simp [hc]), if_neg (by simp [ho]), if_pos hb]
theorem cls_ok {s : Bk} {k : Nat} {c : Ac} (h : ther s k = true) (h0 : ¬ (k : Int) = 0) (hc : clsd s k = false) (ho : opb k s.acs = false) (hb : balT k s.txs = 0) (hk : s.acs[k]? = some c) : cls s k = (0, { s with acs := s.acs.set k (c.1, true) }) := by
 unfold cls
 rw [if_neg (by simp only [h, h0]; simp), if_neg (by simp [hc]), if_neg (by simp [ho]), if_neg (by simp [hb])]
 simp [hk]
def LinesAt (w : World) (v : Value) (ls : List Ln) : Prop :=
 ∃ ao cap, v = .slice ao ls.length cap ∧ (ls = [] ∨ ∃ b off, ao = some ⟨b, off, none⟩ ∧ b < w.heap.size ∧
  ∀ (i : Nat) (l : Ln), ls[i]? = some l → w.cell? ⟨b, off + i * 2, none⟩ = some (.int .i64 l.1) ∧ w.cell? ⟨b, off + i * 2 + 1, none⟩ = some (.int .i64 l.2))
theorem LinesAt.kept {w w' : World} {v : Value} {ls : List Ln} (h : LinesAt w v ls) (hb : Below w.heap.size w w') : LinesAt w' v ls := by
 obtain ⟨ao, cap, rfl, hr⟩ := h
 refine ⟨ao, cap, rfl, ?_⟩
 rcases hr with hr | ⟨b, off, ha, hlt, hc⟩
 ·exact .inl hr
 ·refine .inr ⟨b, off, ha, Nat.lt_of_lt_of_le hlt hb.size, fun i l hl => ?_⟩
  rw [hb.cell (p := ⟨b, off + i * 2, none⟩) hlt, hb.cell (p := ⟨b, off + i * 2 + 1, none⟩) hlt]
  exact hc i l hl
theorem LinesAt.of_own {w : World} {B : Nat} {v : Value} {ls : List Ln} (h : w.ownsRow B 89 2 v ls.length (cellsL ls)) : LinesAt w v ls := by
 obtain ⟨ao, cap, rfl⟩ := oForm h
 refine ⟨ao, cap, rfl, ?_⟩
 by_cases hl : ls.length = 0
 ·exact .inl (List.length_eq_zero_iff.1 hl)
 ·obtain ⟨g, _, e1, hg, hg'⟩ := oSome h (by omega)
  simp only [Value.slice.injEq, true_and] at e1
  obtain ⟨rfl, rfl⟩ := e1
  refine .inr ⟨g, 0, rfl, hg', fun i l hl => ?_⟩
  have h2 := two_get (fun x : Ln => Value.int .i64 x.1) (fun x => .int .i64 x.2) ls i l hl
  rw [Nat.zero_add]
  exact ⟨oCell h h2.1, oCell h h2.2⟩
theorem LinesAt.line {w : World} {ao : Option Addr} {n cap : Nat} {ls : List Ln} (h : LinesAt w (.slice ao n cap) ls) {i : Nat} {l : Ln} (hl : ls[i]? = some l) : n = ls.length ∧ ∃ b off, ao = some ⟨b, off, none⟩ ∧ b < w.heap.size ∧
  w.cell? ⟨b, off + i * 2, none⟩ = some (.int .i64 l.1) ∧ w.cell? ⟨b, off + i * 2 + 1, none⟩ = some (.int .i64 l.2) := by
 obtain ⟨ao', cap', e, hr⟩ := h
 simp only [Value.slice.injEq] at e
 obtain ⟨rfl, rfl, rfl⟩ := e
 refine ⟨rfl, ?_⟩
 rcases hr with rfl | ⟨b, off, ha, hlt, hc⟩
 ·simp at hl
 ·exact ⟨b, off, ha, hlt, hc i l hl⟩
theorem LinesAt.form {w : World} {v : Value} {ls : List Ln} (h : LinesAt w v ls) : ∃ ao cap, v = .slice ao ls.length cap := by
 obtain ⟨ao, cap, rfl, _⟩ := h; exact ⟨ao, cap, rfl⟩
theorem any_step {α : Type} {f : α → Bool} {l : List α} {j : Nat} {c : α} (h : l[j]? = some c) : (l.drop j).any f = (f c || (l.drop (j + 1)).any f) := by
 obtain ⟨hi, rfl⟩ := List.getElem?_eq_some_iff.1 h
 rw [List.drop_eq_getElem_cons hi, List.any_cons]
theorem all_step {α : Type} {f : α → Bool} {l : List α} {j : Nat} {c : α} (h : l[j]? = some c) : (l.drop j).all f = (f c && (l.drop (j + 1)).all f) := by
 obtain ⟨hi, rfl⟩ := List.getElem?_eq_some_iff.1 h
 rw [List.drop_eq_getElem_cons hi, List.all_cons]
theorem sumL_step {l : List Ln} {j : Nat} {c : Ln} (h : l[j]? = some c) : sumL (l.drop j) = c.2 + sumL (l.drop (j + 1)) := by
 obtain ⟨hi, rfl⟩ := List.getElem?_eq_some_iff.1 h
 rw [List.drop_eq_getElem_cons hi]; rfl
theorem amounts_any (v : Value) (ls : List Ln) (w : World) (h : LinesAt w v ls) (h4 : ls.length ≤ 4) :
  Calls Tryz.prog 186 #[v] w fun e w' => e = .returned (.bool (!ls.any amtB)) ∧ Below w.heap.size w w' := by
 obtain ⟨ao, cap, rfl⟩ := h.form
 have H := hI h
 clear h
 go_enter Tryz.func186, Tryz.ntmps186
 go_wp2_with fail
 go_loopg [7] ls.length (fun m i wr => ∃ j : Nat, j ≤ ls.length ∧ m = ls.length - j ∧ i = .int .i64 j ∧ Hid ((ls.drop j).any amtB = ls.any amtB) ∧ Hid (Below w.heap.size w wr))
 case atStart => exact ⟨0, by omega, rfl, rfl, rfl, Below.refl _ _⟩
 case round =>
  obtain ⟨j, hj, rfl, rfl, Ho, Hb⟩ := hrel
  have hsz := Hb.u.size
  by_cases hlt : j < ls.length
  ·obtain ⟨⟨la, lm⟩, hl⟩ : ∃ l, ls[j]? = some l := ⟨ls[j], List.getElem?_eq_getElem hlt⟩
   obtain ⟨_, b, off, rfl, hbl, d1, d2⟩ := (H.u.kept Hb.u).line hl
   have Hst := hI (any_step (f := amtB) hl)
   simp only at d1 d2 Hst
   clear hl
   by_cases h0 : lm = 0
   ·subst h0
    go_wp2_with fail
    go_ret
    exact ⟨retB' (by rw [← Ho.u, Hst.u]; simp [amtB]), Hb.u.alloc hsz _⟩
   ·have hne : (lm == 0) = false := by simpa using h0
    by_cases h1 : lm < -1000000000000
    ·go_wp2_with fail
     go_ret
     exact ⟨retB' (by rw [← Ho.u, Hst.u]; simp [amtB, h1]), Hb.u.alloc hsz _⟩
    ·by_cases h2 : 1000000000000 < lm
     ·go_wp2_with fail
      go_ret
      exact ⟨retB' (by rw [← Ho.u, Hst.u]; simp [amtB, h2]), Hb.u.alloc hsz _⟩
     ·have hst2 : amtB (la, lm) = false := by unfold amtB; simp [hne]; omega
      go_wp2_with fail
      go_roundg (ls.length - (j + 1))
      case measure => omega
      case rel => exact ⟨j + 1, by omega, rfl, by go_num, by show _ = _; rw [← Ho.u, Hst.u, hst2]; simp, Hb.u.alloc hsz _⟩
  ·obtain rfl : j = ls.length := by omega
   go_wp2_with fail
   go_ret
   exact ⟨retB' (by rw [← Ho.u, List.drop_length]; rfl), Hb.u⟩
theorem total_any (v : Value) (ls : List Ln) (w : World) (h : LinesAt w v ls) (h4 : ls.length ≤ 4) (ha : ∀ l ∈ ls, -1000000000000 ≤ l.2 ∧ l.2 ≤ 1000000000000) :
  Calls Tryz.prog 189 #[v] w fun e w' => e = .returned (.int .i64 (sumL ls)) ∧ Below w.heap.size w w' := by
 obtain ⟨ao, cap, rfl⟩ := h.form
 have H := hI h
 have Ha := hI ha
 clear h ha
 go_enter Tryz.func189, Tryz.ntmps189
 go_wp2_with fail
 go_loopg [3, 8] ls.length (fun m v i wr => ∃ j : Nat, ∃ x : Int, j ≤ ls.length ∧ m = ls.length - j ∧ i = .int .i64 j ∧ v = .int .i64 x ∧ -(1000000000000 * (j : Int)) ≤ x ∧ x ≤ 1000000000000 * (j : Int) ∧ Hid (x + sumL (ls.drop j) = sumL ls) ∧ Hid (Below w.heap.size w wr))
 case atStart => exact ⟨0, 0, by omega, rfl, rfl, rfl, by omega, by omega, by show _ = _; simp, Below.refl _ _⟩
 case round =>
  obtain ⟨j, x, hj, rfl, rfl, rfl, hx0, hx1, Ho, Hb⟩ := hrel
  have hsz := Hb.u.size
  by_cases hlt : j < ls.length
  ·obtain ⟨⟨la, lm⟩, hl⟩ : ∃ l, ls[j]? = some l := ⟨ls[j], List.getElem?_eq_getElem hlt⟩
   obtain ⟨_, b, off, rfl, hbl, d1, d2⟩ := (H.u.kept Hb.u).line hl
   have Hst := hI (sumL_step hl)
   have hb := Ha.u _ (List.mem_of_getElem? hl)
   simp only at d1 d2 Hst hb
   have hwr : IntKind.i64.wrap (x + lm) = x + lm := by rw [IntKind.wrap_i64]; omega
   clear hl
   go_wp2_with fail
   go_roundg (ls.length - (j + 1))
   case measure => omega
   case rel => exact ⟨j + 1, x + lm, by omega, rfl, by go_num, rfl, by omega, by omega, by show _ = _; have := Ho.u; rw [Hst.u] at this; omega, Hb.u.alloc hsz _⟩
  ·obtain rfl : j = ls.length := by omega
   go_wp2_with fail
   go_ret
   refine ⟨retI' ?_, Hb.u⟩
   have := Ho.u
   rw [List.drop_length] at this
   simpa [sumL] using this
theorem hasAccounts_any (B p : Nat) (s : Bk) (v : Value) (ls : List Ln) (w : World) (hs : Led w B p s) (h : LinesAt w v ls) (h4 : ls.length ≤ 4) :
  Calls Tryz.prog 187 #[.pointer (some ⟨p, 0, none⟩), v] w fun e w' => e = .returned (.bool (ls.all (accB s))) ∧ Below w.heap.size w w' := by
 obtain ⟨va, vt, tv, dk, hs⟩ := hs
 obtain ⟨g, capa, rfl, hg, hg'⟩ := oSome hs.acs hs.good.one
 have hfew := hs.good.few
 obtain ⟨ao, cap, rfl⟩ := h.form
 have H := hI h
 have HS := hI hs
 clear h hs
 go_enter Tryz.func187, Tryz.ntmps187
 go_wp2_with fail
 go_loopg [9] ls.length (fun m i wr => ∃ j : Nat, j ≤ ls.length ∧ m = ls.length - j ∧ i = .int .i64 j ∧ Hid ((ls.drop j).all (accB s) = ls.all (accB s)) ∧ Hid (Below w.heap.size w wr))
 case atStart => exact ⟨0, by omega, rfl, rfl, rfl, Below.refl _ _⟩
 case round =>
  obtain ⟨j, hj, rfl, rfl, Ho, Hb⟩ := hrel
  have hsz := Hb.u.size
  have hblk := HS.u.blk.kept Hb.u
  have c0 := hblk.cell 0
  have hlb := hblk.lt
  simp only [List.getElem?_toArray, List.getElem?_cons_zero] at c0
  clear hblk
  by_cases hlt : j < ls.length
  ·obtain ⟨⟨la, lm⟩, hl⟩ : ∃ l, ls[j]? = some l := ⟨ls[j], List.getElem?_eq_getElem hlt⟩
   obtain ⟨_, b, off, rfl, hbl, d1, d2⟩ := (H.u.kept Hb.u).line hl
   have Hst := hI (all_step (f := accB s) hl)
   simp only at d1 d2 Hst
   clear hl
   by_cases h0 : la ≤ 0
   ·have hacc : accB s (la, lm) = false := by unfold accB ther; simp; omega
    go_upto_region 4 with fail
    go_quiet (fail)
    go_wp2_with fail
    go_ret
    exact ⟨retB' (by rw [← Ho.u, Hst.u, hacc]; simp), (Hb.u.alloc hsz _).drewN _⟩
   ·have hd0 : decide (la ≤ 0) = false := by simp; omega
    by_cases h1 : (s.acs.length : Int) ≤ la
    ·have hacc : accB s (la, lm) = false := by unfold accB ther; simp; omega
     go_upto_region 4 with fail
     go_quiet (fail)
     go_wp2_with fail
     go_ret
     exact ⟨retB' (by rw [← Ho.u, Hst.u, hacc]; simp), (Hb.u.alloc hsz _).drewN _⟩
    ·have hacc : accB s (la, lm) = true := by unfold accB ther; simp; omega
     have hd1 : decide ((s.acs.length : Int) ≤ la) = false := by simp; omega
     go_upto_region 4 with fail
     go_quiet (fail)
     go_wp2_with fail
     go_roundg (ls.length - (j + 1))
     case measure => omega
     case rel => exact ⟨j + 1, by omega, rfl, by go_num, by show _ = _; rw [← Ho.u, Hst.u, hacc]; simp, (Hb.u.alloc hsz _).drewN _⟩
  ·obtain rfl : j = ls.length := by omega
   go_wp2_with fail
   go_ret
   exact ⟨retB' (by rw [← Ho.u, List.drop_length]; rfl), Hb.u⟩
def secH (k : Nat) (n d : Int) (m : Nat) : List UInt8 := [UInt8.ofNat k, UInt8.ofNat m] ++ nB n ++ nB d
def lnB (ls : List Ln) : List UInt8 := ls.flatMap fun l => nB l.1 ++ nB l.2
def secP (k : Nat) (n d : Int) (ls : List Ln) : List UInt8 := secH k n d ls.length ++ lnB ls
def secL (k : Nat) (n d : Int) (ls : List Ln) : List UInt8 := secP k n d ls ++ List.replicate (64 - (secP k n d ls).length) 0
def secB (k : Nat) (n d : Int) (ls : List Ln) : ByteArray := ⟨(secL k n d ls).toArray⟩
def AmtOk (n : Int) : Prop := -1000000000000 ≤ n ∧ n ≤ 1000000000000
theorem lnB_length (ls : List Ln) : (lnB ls).length = 12 * ls.length := by
 induction ls with
 | nil => rfl
 | cons l r ih => unfold lnB at ih ⊢; simp [nB_length] at ih ⊢; omega
theorem secH_length (k : Nat) (n d : Int) (m : Nat) : (secH k n d m).length = 14 := by simp [secH, nB_length]
theorem secP_length (k : Nat) (n d : Int) (ls : List Ln) : (secP k n d ls).length = 14 + 12 * ls.length := by simp [secP, secH_length, lnB_length]
theorem secL_length (k : Nat) (n d : Int) (ls : List Ln) (h : ls.length ≤ 4) : (secL k n d ls).length = 64 := by
 unfold secL; rw [List.length_append, List.length_replicate, secP_length]; omega
theorem lnB_take {ls : List Ln} {j : Nat} {l : Ln} (h : ls[j]? = some l) : lnB (ls.take (j + 1)) = lnB (ls.take j) ++ nB l.1 ++ nB l.2 := by
 unfold lnB; rw [List.take_add_one, h]; simp
theorem L_ext {u v : ByteArray} (h : L u = L v) : u = v := by
 cases u; cases v; unfold L at h; simp at h; rw [h]
theorem number_any (n : Int) (w : World) (h : AmtOk n) :
  Calls Tryz.prog 184 #[.int .i64 n] w fun e w' => ∃ u : ByteArray, e = .returned (.string u) ∧ L u = nB n ∧ u.size = 6 ∧ Below w.heap.size w w' := by
 refine (numberText_any n w h.1 h.2).mono ?_
 rintro e w1 ⟨rfl, hb⟩
 exact ⟨_, rfl, L_list _, by rw [size_L, L_list, nB_length], hb⟩
theorem sector_any (k : Nat) (n d : Int) (v : Value) (ls : List Ln) (w : World) (hk : k < 256) (hn : AmtOk n) (hd : AmtOk d) (hl : LinesAt w v ls) (h4 : ls.length ≤ 4) (hls : ∀ l ∈ ls, AmtOk l.1 ∧ AmtOk l.2) :
  Calls Tryz.prog 139 #[.agg #[.int .u8 (k : Int), .int .i64 n, .int .i64 d, v]] w fun e w' => e = .returned (.string (secB k n d ls)) ∧ Below w.heap.size w w' := by
 obtain ⟨ao, cap, rfl⟩ := hl.form
 obtain ⟨W, hW⟩ : ∃ W, w.alloc (.cells #[.int .u8 (k : Int), .int .i64 n, .int .i64 d, .slice ao ls.length cap] 173) = W := ⟨_, rfl⟩
 have hcv : (convert 187 9 (.slice (some ⟨w.heap.size + 1, 0, none⟩) 2 2)).run Tryz.prog (W.alloc (.cells #[.int .u8 (k : Int), .int .u8 (ls.length : Int)] 5)) = .ok (.string ⟨#[UInt8.ofNat k, UInt8.ofNat ls.length]⟩) (W.alloc (.cells #[.int .u8 (k : Int), .int .u8 (ls.length : Int)] 5)) := by
  have hs : W.heap.size = w.heap.size + 1 := by rw [← hW]; simp
  have hb := Blk.new W #[.int .u8 (k : Int), .int .u8 (ls.length : Int)] 5
  rw [hs] at hb
  exact run_convert_bytes_back (P := Tryz.prog) _ 187 9 5 ⟨w.heap.size + 1, 0, none⟩ 2 [UInt8.ofNat k, UInt8.ofNat ls.length] Tryz.underlying187 Tryz.underlying5 Tryz.underlying9 (fun j hj => by
   rw [Addr.add_lit, Nat.zero_add, hb.cell]
   rcases j with _ | _ | j
   ·simp; omega
   ·simp; omega
   ·simp at hj; omega)
 have HX : Hid (Blk W w.heap.size #[.int .u8 (k : Int), .int .i64 n, .int .i64 d, .slice ao ls.length cap] 173) := by rw [← hW]; exact Blk.new _ _ _
 have Hb0 : Hid (Below w.heap.size w W) := by rw [← hW]; exact (Below.refl _ _).alloc (Nat.le_refl _) _
 have hWs : W.heap.size = w.heap.size + 1 := by rw [← hW]; simp
 have Hl := hI hl
 have Hls := hI hls
 have Hn := hI hn
 have Hd := hI hd
 have hwr : IntKind.u8.wrap (ls.length : Int) = (ls.length : Int) := by rw [IntKind.wrap_u8]; omega
 have x0 := HX.u.cell 0
 have x1 := HX.u.cell 1
 have x3 := HX.u.cell 3
 simp only [List.getElem?_toArray, List.getElem?_cons_zero, List.getElem?_cons_succ] at x0 x1 x3
 clear hl hls hn hd
 go_enter Tryz.func139, Tryz.ntmps139
 go_wp2_with fail
 try rw [hW]
 refine (number_any n _ Hn.u).mono ?_
 rintro e w1 ⟨t1, rfl, ht1, hs1, hb1⟩
 have HX1 := hI ((HX.u.alloc _).kept hb1)
 have Hb1 : Hid (Below w.heap.size w w1) := (Hb0.u.alloc (by omega) _).then' (by simp; omega) hb1
 have Ht1 := hI ht1
 have x2 := HX1.u.cell 2
 simp only [List.getElem?_toArray, List.getElem?_cons_zero, List.getElem?_cons_succ] at x2
 clear hb1 ht1 x0 x1 x3 hcv
 have hsz1 : (⟨#[UInt8.ofNat k, UInt8.ofNat ls.length]⟩ : ByteArray).size = 2 := rfl
 go_wp2_with fail
 refine (number_any d _ Hd.u).mono ?_
 rintro e w2 ⟨t2, rfl, ht2, hs2, hb2⟩
 have HX2 := hI (HX1.u.kept hb2)
 have Hb2 : Hid (Below w.heap.size w w2) := Hb1.u.then hb2
 obtain ⟨u0, hu0⟩ : ∃ u0, (⟨#[UInt8.ofNat k, UInt8.ofNat ls.length]⟩ : ByteArray) ++ t1 ++ t2 = u0 := ⟨_, rfl⟩
 have Hu0 : Hid (L u0 = secH k n d ls.length ∧ u0.size = 14) := by
  have hL : L u0 = secH k n d ls.length := by rw [← hu0, L_append, L_append, Ht1.u, ht2]; rfl
  exact ⟨hL, by rw [size_L, hL, secH_length]⟩
 have hs12 : ((⟨#[UInt8.ofNat k, UInt8.ofNat ls.length]⟩ : ByteArray) ++ t1).size = 8 := by rw [ByteArray.size_append]; omega
 have x3 := HX2.u.cell 3
 simp only [List.getElem?_toArray, List.getElem?_cons_zero, List.getElem?_cons_succ] at x3
 clear hb2 ht2 x2
 go_wp2_with fail
 try rw [hu0]
 go_loopg [3, 27] ls.length (fun m vt vi wr => ∃ j : Nat, ∃ u : ByteArray, j ≤ ls.length ∧ m = ls.length - j ∧ vi = .int .i64 j ∧ vt = .string u ∧ u.size = 14 + 12 * j ∧ Hid (L u = secH k n d ls.length ++ lnB (ls.take j)) ∧ Hid (Below w.heap.size w wr))
 case atStart => exact ⟨0, u0, by omega, rfl, rfl, rfl, Hu0.u.2, by show _ = _; rw [Hu0.u.1]; simp [lnB], Hb2.u⟩
 case round =>
  obtain ⟨j, u, hj, rfl, rfl, rfl, hus, Hu, Hb⟩ := hrel
  have hsz := Hb.u.size
  by_cases hlt : j < ls.length
  ·obtain ⟨⟨la, lm⟩, hlj⟩ : ∃ l, ls[j]? = some l := ⟨ls[j], List.getElem?_eq_getElem hlt⟩
   obtain ⟨_, b, off, rfl, hbl, d1, d2⟩ := (Hl.u.kept Hb.u).line hlj
   have Hok := hI (Hls.u _ (List.mem_of_getElem? hlj))
   have Hst := hI (lnB_take hlj)
   simp only at d1 d2 Hst Hok
   clear hlj
   go_wp2_with fail
   refine (number_any la _ Hok.u.1).mono ?_
   rintro e w3 ⟨t3, rfl, ht3, hs3, hb3⟩
   have Hb3 : Hid (Below w.heap.size w w3) := (Hb.u.alloc hsz _).then' (by simp; omega) hb3
   have k1 := hb3.cell (p := ⟨wr.heap.size, 1, none⟩) (by simp)
   simp at k1
   have Ht3 := hI ht3
   clear hb3 ht3
   go_wp2_with fail
   refine (number_any lm _ Hok.u.2).mono ?_
   rintro e w4 ⟨t4, rfl, ht4, hs4, hb4⟩
   have Hb4 : Hid (Below w.heap.size w w4) := Hb3.u.then hb4
   have Ht4 := hI ht4
   clear hb4 ht4
   have hs34 : (u ++ t3).size = 20 + 12 * j := by rw [ByteArray.size_append]; omega
   go_wp2_with fail
   go_roundg (ls.length - (j + 1))
   case measure => omega
   case rel => exact ⟨j + 1, u ++ t3 ++ t4, by omega, rfl, by go_num, rfl, by rw [ByteArray.size_append]; omega, by show _ = _; rw [L_append, L_append, Hu.u, Ht3.u, Ht4.u, Hst.u]; simp, Hb4.u⟩
  ·obtain rfl : j = ls.length := by omega
   have Hp : Hid (L u = secP k n d ls) := by have := Hu.u; rw [List.take_length] at this; exact this
   go_wp2_with fail
   go_loopg [3] (64 - u.size) (fun m vt wr => ∃ j : Nat, ∃ u : ByteArray, u.size ≤ 64 ∧ m = 64 - u.size ∧ vt = .string u ∧ Hid (L u = secP k n d ls ++ List.replicate j 0) ∧ Hid (Below w.heap.size w wr))
   case atStart => exact ⟨0, u, by omega, rfl, rfl, by show _ = _; rw [Hp.u]; simp, Hb.u⟩
   case round =>
    clear Hb Hu Hp hus
    obtain ⟨j, u, hus, rfl, rfl, Hu, Hb⟩ := hrel
    by_cases hlt : u.size < 64
    ·have hdc : decide ((u.size : Int) < 64) = true := by simp; omega
     go_wp2_with fail
     go_roundg (64 - (u.size + 1))
     case measure => omega
     case rel => exact ⟨j + 1, u ++ ⟨#[0]⟩, by rw [ByteArray.size_append]; show u.size + 1 ≤ 64; omega, by rw [ByteArray.size_append]; rfl, rfl, by show _ = _; rw [L_append, Hu.u, List.replicate_succ', ← List.append_assoc]; rfl, Hb.u⟩
    ·have hdc : decide ((u.size : Int) < 64) = false := by simp; omega
     have Hfin : Hid (u = secB k n d ls) := by
      have h1 : u.size = (secP k n d ls).length + j := by rw [size_L, Hu.u]; simp
      have h2 : L u = secL k n d ls := by
       rw [Hu.u]
       unfold secL
       rw [show 64 - (secP k n d ls).length = j by omega]
      have h3 : L (secB k n d ls) = secL k n d ls := by unfold secB; exact L_list _
      exact L_ext (by rw [h2, h3])
     go_wp2_with fail
     go_ret
     exact ⟨congrArg (fun u => Ending.returned (.string u)) Hfin.u, Hb.u⟩
theorem info_write : (Tryz.prog.info? 153).map (fun i => (i.zero, i.size, i.bytes)) = some (some (.agg #[.int .i64 0, .string ⟨#[]⟩]), 2, 24) := by kernel_rfl
def dkU (yes : Bool) (u : Nat) : Nat := if yes then u + 1 else u
def dkW (yes : Bool) (u : Nat) (x : ByteArray) (ws : List Wr) : List Wr := if yes then ws ++ [((u : Int), x), (-1, ⟨#[]⟩)] else ws
end Go.Proofs.YtdchbenfccofpaaGreatDoor
