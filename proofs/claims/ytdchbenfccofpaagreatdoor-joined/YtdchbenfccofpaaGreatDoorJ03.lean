/- Reports: what lines come to, the cells of a report, as plain functions. Movements: what the program's ledger takes of its lines. Movements: an account alone, and with all below it. Walks of the books: the program's Close. Walks of the books: lines; the program's looks at them. Walks of the books: the program's looks at lines, on. Walks of the books: the program's find and repeated. -/
import Derived.Test.YtdchbenfccofpaaGreatDoorJ01
import Derived.Test.YtdchbenfccofpaaGreatDoorJ02
import Derived.Deep.LoopGhost
import Derived.BigQuiet
import Derived.Deep.DeepCutAuto
namespace Db

/-- Is account a, or one above it (as far as f steps up), account n? -/
def wth (acs : List Ac) (n : Int) : Nat → Int → Bool
  | 0, _ => false
  | f + 1, a => if a < 0 then false else if a == n then true else wth acs n f (acs.getD a.toNat (0, false)).1
/-- What lines come to, of those accounts of which q is true: the sum, how many. -/
def tkL (q : Int → Bool) : List Ln → Int × Int
  | [] => (0, 0)
  | l :: r => if q l.1 then (l.2 + (tkL q r).1, 1 + (tkL q r).2) else tkL q r
def tkT (q : Int → Bool) (a b : Int) : List Tn → Int × Int
  | [] => (0, 0)
  | t :: r => if a ≤ t.2.1 ∧ t.2.1 ≤ b then ((tkL q t.2.2).1 + (tkT q a b r).1, (tkL q t.2.2).2 + (tkT q a b r).2) else tkT q a b r
def inA (s : Bk) (sel n a : Int) : Bool := if sel == 33 then a == n else wth s.acs n 16 a
/-- The cell of an operand with a sign, in period k; cells: those of the rows ahead. -/
def opE (s : Bk) (pd : List (Int × Int)) (cells : List (List Cl)) (k : Nat) (p : Pt) : Cl :=
  if p.1 == 36 then (cells.getD p.2.toNat []).getD k (0, 0)
  else if p.1 == 60 then (if k = 0 then (0, 0) else (cells.getD p.2.toNat []).getD (k - 1) (0, 0))
  else if p.1 == 35 then ((tkT (inA s p.1 p.2) (pd.getD k (0, 0)).1 (pd.getD k (0, 0)).2 s.txs).2, 0)
  else ((tkT (inA s p.1 p.2) (pd.getD k (0, 0)).1 (pd.getD k (0, 0)).2 s.txs).1, 0)
/-- The cell of parts. -/
def celO (o : Option (List Cl)) : Cl := (o.getD []).headD (0, 0)
def cel (E : Pt → Cl) (ps : List Pt) : Cl := celO (ps.foldl (vStep E) (some []))
def rowC (s : Bk) (pd : List (Int × Int)) (cells : List (List Cl)) (ps : List Pt) : List Cl := (List.range pd.length).map fun k => cel (opE s pd cells k) ps
def shC (s : Bk) (pd : List (Int × Int)) (pss : List (List Pt)) : List (List Cl) := pss.foldl (fun cells ps => cells ++ [rowC s pd cells ps]) []

theorem cel_val {E : Pt → Cl} {ps : List Pt} {c : Cl} (h : ValR E ps c) : cel E ps = c := by
  unfold cel; rw [h []]; rfl
theorem val_cel {E : Pt → Cl} {ps : List Pt} {n : Nat} {e : List UInt8} (h : Wf n e ps) : ValR E ps (cel E ps) := by
  obtain ⟨c, hc⟩ := wf_val E h
  rw [cel_val hc]; exact hc

/-- Sums and counts stay small. -/
theorem tkL_le (q : Int → Bool) (ls : List Ln) (h : ∀ l ∈ ls, -1000000000000 ≤ l.2 ∧ l.2 ≤ 1000000000000) :
    -(1000000000000 * (ls.length : Int)) ≤ (tkL q ls).1 ∧ (tkL q ls).1 ≤ 1000000000000 * (ls.length : Int) ∧ 0 ≤ (tkL q ls).2 ∧ (tkL q ls).2 ≤ ls.length := by
  induction ls with
  | nil => simp [tkL]
  | cons l r ih =>
    have h1 := h l (by simp)
    have h2 := ih (fun x hx => h x (by simp [hx]))
    simp only [tkL, List.length_cons]
    split <;> (try simp only) <;> omega
theorem tkT_le (q : Int → Bool) (a b : Int) (ts : List Tn) (h : ∀ t ∈ ts, t.2.2.length ≤ 4 ∧ ∀ l ∈ t.2.2, -1000000000000 ≤ l.2 ∧ l.2 ≤ 1000000000000) :
    -(4000000000000 * (ts.length : Int)) ≤ (tkT q a b ts).1 ∧ (tkT q a b ts).1 ≤ 4000000000000 * (ts.length : Int) ∧ 0 ≤ (tkT q a b ts).2 ∧ (tkT q a b ts).2 ≤ 4 * (ts.length : Int) := by
  induction ts with
  | nil => simp [tkT]
  | cons t r ih =>
    have h1 := h t (by simp)
    have h2 := ih (fun x hx => h x (by simp [hx]))
    have h3 := tkL_le q t.2.2 h1.2
    simp only [tkT, List.length_cons]
    split <;> (try simp only) <;> omega
theorem tkL_step {q : Int → Bool} {l : List Ln} {j : Nat} {t : Ln} (h : l[j]? = some t) : tkL q (l.drop j) = if q t.1 then (t.2 + (tkL q (l.drop (j + 1))).1, 1 + (tkL q (l.drop (j + 1))).2) else tkL q (l.drop (j + 1)) := by
  obtain ⟨hi, rfl⟩ := List.getElem?_eq_some_iff.1 h
  rw [List.drop_eq_getElem_cons hi]; rfl
theorem tkT_step {q : Int → Bool} {a b : Int} {l : List Tn} {j : Nat} {t : Tn} (h : l[j]? = some t) : tkT q a b (l.drop j) = if a ≤ t.2.1 ∧ t.2.1 ≤ b then ((tkL q t.2.2).1 + (tkT q a b (l.drop (j + 1))).1, (tkL q t.2.2).2 + (tkT q a b (l.drop (j + 1))).2) else tkT q a b (l.drop (j + 1)) := by
  obtain ⟨hi, rfl⟩ := List.getElem?_eq_some_iff.1 h
  rw [List.drop_eq_getElem_cons hi]; rfl
/-- Only the accounts of the lines count. -/
theorem tkL_congr {q r : Int → Bool} (ls : List Ln) (h : ∀ l ∈ ls, q l.1 = r l.1) : tkL q ls = tkL r ls := by
  induction ls with
  | nil => rfl
  | cons l t ih => simp only [tkL, h l (by simp), ih (fun x hx => h x (by simp [hx]))]
theorem tkT_congr {q r : Int → Bool} {a b : Int} (ts : List Tn) (h : ∀ t ∈ ts, ∀ l ∈ t.2.2, q l.1 = r l.1) : tkT q a b ts = tkT r a b ts := by
  induction ts with
  | nil => rfl
  | cons t u ih => simp only [tkT, tkL_congr t.2.2 (h t (by simp)), ih (fun x hx => h x (by simp [hx]))]
/-- All lines of an account are those of all days. -/
theorem tkL_bal (n : Int) (ls : List Ln) : (tkL (fun a => a == n) ls).1 = balL n ls := by
  induction ls with
  | nil => rfl
  | cons l t ih =>
    simp only [tkL, balL]
    split
    · rw [← ih]
    · rw [← ih]; simp
theorem tkT_bal (n : Int) (ts : List Tn) (h : ∀ t ∈ ts, 0 ≤ t.2.1 ∧ t.2.1 ≤ 999) : (tkT (fun a => a == n) 0 999 ts).1 = balT n ts := by
  induction ts with
  | nil => rfl
  | cons t u ih =>
    simp only [tkT, balT]
    rw [if_pos (h t (by simp)), ← tkL_bal, ← ih (fun x hx => h x (by simp [hx]))]

/-- The accounts that are chosen, from the first on: n and all below it. -/
def chsB (n : Int) (ch : List Bool) (c : Ac) : Bool := (decide (0 ≤ c.1) && decide (c.1 < ch.length) && ch.getD c.1.toNat false) || decide ((ch.length : Int) = n)
def chs (n : Int) (acs : List Ac) : List Bool := acs.foldl (fun ch c => ch ++ [chsB n ch c]) []
theorem chs_snoc (n : Int) (acs : List Ac) (c : Ac) : chs n (acs ++ [c]) = chs n acs ++ [chsB n (chs n acs) c] := by simp [chs]
theorem chs_len (n : Int) (acs : List Ac) : (chs n acs).length = acs.length := by
  have key : ∀ (l : List Ac) (ch : List Bool), (l.foldl (fun ch c => ch ++ [chsB n ch c]) ch).length = ch.length + l.length := by
    intro l
    induction l with
    | nil => intro ch; rfl
    | cons c t ih => intro ch; rw [List.foldl_cons, ih]; simp; omega
  have := key acs []
  simpa [chs] using this
theorem wth_at (acs : List Ac) (n : Int) (f : Nat) (a : Int) : wth acs n (f + 1) a = if a < 0 then false else if a == n then true else wth acs n f (acs.getD a.toNat (0, false)).1 := rfl
/-- More steps than there are accounts up to this one make no difference. -/
theorem wth_more (acs : List Ac) (n : Int) (ho : ∀ (i : Nat) c, acs[i]? = some c → c.1 < i) : ∀ (f g : Nat) (a : Int), a < f → a < g → a < acs.length → wth acs n f a = wth acs n g a := by
  intro f
  induction f with
  | zero => intro g a hf hg hl; cases g with
    | zero => rfl
    | succ g => simp only [wth]; rw [if_pos (by omega)]
  | succ f ih =>
    intro g a hf hg hl
    cases g with
    | zero => simp only [wth]; rw [if_pos (by omega)]
    | succ g =>
      simp only [wth]
      split
      · rfl
      · split
        · rfl
        · rename_i h0 h1
          obtain ⟨c, hc⟩ : ∃ c, acs[a.toNat]? = some c := ⟨acs[a.toNat]'(by omega), List.getElem?_eq_getElem (by omega)⟩
          have hlt := ho _ _ hc
          rw [List.getD_eq_getElem?_getD, hc, Option.getD_some]
          exact ih g c.1 (by omega) (by omega) (by omega)
theorem wth_take {acs : List Ac} {n : Int} {m : Nat} (ho : ∀ (i : Nat) c, acs[i]? = some c → c.1 < i) (hm : m ≤ acs.length) : ∀ (f : Nat) (a : Int), a < m → wth (acs.take m) n f a = wth acs n f a := by
  intro f
  induction f with
  | zero => intro a _; rfl
  | succ f ih =>
    intro a ha
    simp only [wth]
    split
    · rfl
    · split
      · rfl
      · rename_i h0 h1
        obtain ⟨c, hc⟩ : ∃ c, acs[a.toNat]? = some c := ⟨acs[a.toNat]'(by omega), List.getElem?_eq_getElem (by omega)⟩
        have hlt := ho _ _ hc
        have ht : (acs.take m)[a.toNat]? = some c := by rw [List.getElem?_take_of_lt (by omega)]; exact hc
        rw [List.getD_eq_getElem?_getD, List.getD_eq_getElem?_getD, hc, ht, Option.getD_some]
        exact ih c.1 (by omega)
theorem chs_get (acs : List Ac) (n : Int) (ho : ∀ (i : Nat) c, acs[i]? = some c → c.1 < i) (h16 : acs.length ≤ 16) : ∀ (m : Nat), m ≤ acs.length → ∀ i : Nat, i < m → (chs n (acs.take m)).getD i false = wth acs n 16 i := by
  intro m
  induction m with
  | zero => intro _ i hi; omega
  | succ m ih =>
    intro hm i hi
    have hml : m < acs.length := by omega
    obtain ⟨c, hc⟩ : ∃ c, acs[m]? = some c := ⟨acs[m], List.getElem?_eq_getElem hml⟩
    have ht : acs.take (m + 1) = acs.take m ++ [c] := by rw [List.take_add_one, hc]; rfl
    have hlen : (chs n (acs.take m)).length = m := by rw [chs_len, List.length_take]; omega
    rw [ht, chs_snoc]
    by_cases him : i < m
    · have h2 := ih (by omega) i him
      rw [List.getD_eq_getElem?_getD] at h2 ⊢
      rw [List.getElem?_append_left (by rw [hlen]; exact him)]
      exact h2
    · obtain rfl : i = m := by omega
      rw [List.getD_eq_getElem?_getD, List.getElem?_append_right (by rw [hlen]; exact Nat.le_refl _), hlen, Nat.sub_self]
      simp only [List.getElem?_cons_zero, Option.getD_some]
      have hord := ho _ _ hc
      unfold chsB
      rw [hlen]
      rw [show (16 : Nat) = 15 + 1 from rfl, wth_at, if_neg (by omega)]
      by_cases hn : (i : Int) = n
      · rw [if_pos (by simpa using hn)]; simp [hn]
      · rw [if_neg (by simpa using hn)]
        rw [Int.toNat_natCast, List.getD_eq_getElem?_getD (l := acs), hc, Option.getD_some]
        by_cases h0 : c.1 < 0
        · have : wth acs n 15 c.1 = false := by simp only [wth]; rw [if_pos h0]
          rw [this]
          simp [hn]; omega
        · have h2 := ih (by omega) c.1.toNat (by omega)
          rw [h2, show ((c.1.toNat : Nat) : Int) = c.1 by omega, wth_more acs n ho (15 + 1) 15 c.1 (by omega) (by omega) (by omega)]
          simp [hn]
          have a1 : 0 ≤ c.1 := by omega
          simp [a1, hord]
theorem chs_all {s : Bk} (h : BkGood s) (n : Int) (i : Nat) (hi : i < s.acs.length) : (chs n s.acs).getD i false = wth s.acs n 16 i := by
  have := chs_get s.acs n h.ord h.few s.acs.length (Nat.le_refl _) i hi
  rwa [List.take_length] at this
/-- What the program takes: by the list of those that are chosen. -/
def inC (ch : List Bool) (a : Int) : Bool := decide (0 ≤ a) && decide (a < ch.length) && ch.getD a.toNat false
def chO (n : Int) (m : Nat) : List Bool := (List.range m).map fun i : Nat => decide ((i : Int) = n)
theorem tk_chs {s : Bk} (h : BkGood s) (n a b : Int) : tkT (inC (chs n s.acs)) a b s.txs = tkT (wth s.acs n 16) a b s.txs := by
  refine tkT_congr _ ?_
  intro t ht l hl
  have h1 := (h.tx t ht).2.2.2.2.2 l hl
  have h2 := h.acc t ht l hl
  unfold inC
  have := chs_all h n l.1.toNat (by omega)
  rw [this, chs_len, show ((l.1.toNat : Nat) : Int) = l.1 by omega]
  have a1 : 0 ≤ l.1 := by omega
  simp [a1, h2]
theorem tk_chO {s : Bk} (h : BkGood s) (n a b : Int) : tkT (inC (chO n s.acs.length)) a b s.txs = tkT (fun x => x == n) a b s.txs := by
  refine tkT_congr _ ?_
  intro t ht l hl
  have h1 := (h.tx t ht).2.2.2.2.2 l hl
  have h2 := h.acc t ht l hl
  have a1 : 0 ≤ l.1 := by omega
  unfold inC chO
  have hl1 : l.1.toNat < s.acs.length := by omega
  simp [a1, h2, List.getD_eq_getElem?_getD, Bool.beq_eq_decide_eq]
  omega
def tkO (ok : Bool) (q : Int → Bool) (ls : List Ln) : Int × Int := if ok then tkL q ls else (0, 0)
theorem tkO_yes {ok : Bool} {q : Int → Bool} {l : List Ln} {j : Nat} {t : Ln} (h : l[j]? = some t) (hok : ok = true) (hq : q t.1 = true) : (tkO ok q (l.drop j)).1 = t.2 + (tkO ok q (l.drop (j + 1))).1 ∧ (tkO ok q (l.drop j)).2 = 1 + (tkO ok q (l.drop (j + 1))).2 := by
  unfold tkO
  rw [hok, if_pos rfl, if_pos rfl, tkL_step h, hq, if_pos rfl]
  exact ⟨rfl, rfl⟩
theorem tkO_no {ok : Bool} {q : Int → Bool} {l : List Ln} {j : Nat} {t : Ln} (h : l[j]? = some t) (hq : q t.1 = false ∨ ok = false) : (tkO ok q (l.drop j)).1 = (tkO ok q (l.drop (j + 1))).1 ∧ (tkO ok q (l.drop j)).2 = (tkO ok q (l.drop (j + 1))).2 := by
  unfold tkO
  rcases hq with hq | hq
  · rw [tkL_step h, hq]
    exact ⟨rfl, rfl⟩
  · rw [hq]; exact ⟨rfl, rfl⟩
theorem tkO_end (ok : Bool) (q : Int → Bool) (l : List Ln) : tkO ok q (l.drop l.length) = (0, 0) := by
  rw [List.drop_length]; unfold tkO; split <;> rfl
def inD (a b d : Int) : Bool := decide (a ≤ d) && decide (d ≤ b)
theorem tkT_O {q : Int → Bool} {a b : Int} {l : List Tn} {j : Nat} {t : Tn} (h : l[j]? = some t) : (tkT q a b (l.drop j)).1 = (tkO (inD a b t.2.1) q t.2.2).1 + (tkT q a b (l.drop (j + 1))).1 ∧ (tkT q a b (l.drop j)).2 = (tkO (inD a b t.2.1) q t.2.2).2 + (tkT q a b (l.drop (j + 1))).2 := by
  rw [tkT_step h]
  unfold tkO inD
  by_cases h1 : a ≤ t.2.1 ∧ t.2.1 ≤ b
  · rw [if_pos h1, if_pos (by simp [h1])]; exact ⟨rfl, rfl⟩
  · rw [if_neg h1, if_neg (by simpa using h1)]; simp
end Db
namespace Go.Proofs.YtdchbenfccofpaaGreatDoor
open Go.RowKit Db

/-- Where a movement's loop stands: the answer's block, the movement's. -/
structure MvSt (w wr : World) (x c : Int) : Prop where
  res : Blk wr w.heap.size #[.int .i64 0, .int .i64 0] 213
  mv : Blk wr (w.heap.size + 1) #[.int .i64 x, .int .i64 c] 213
  bel : Below w.heap.size w wr
theorem MvSt.alloc {w wr : World} {x c : Int} (h : MvSt w wr x c) (o : Obj) : MvSt w (wr.alloc o) x c := ⟨h.res.alloc o, h.mv.alloc o, h.bel.alloc h.bel.size o⟩
theorem MvSt.add {w wr : World} {x c : Int} (h : MvSt w wr x c) (y d : Int) : MvSt w ((wr.setCell ⟨w.heap.size + 1, 0, none⟩ (.int .i64 y)).setCell ⟨w.heap.size + 1, 1, none⟩ (.int .i64 d)) y d := by
  refine ⟨(h.res.setOther _ _ (by simp)).setOther _ _ (by simp), ?_, (h.bel.setCell (by simp) _).setCell (by simp) _⟩
  have := (h.mv.set 0 (.int .i64 y)).set 1 (.int .i64 d)
  simpa using this
theorem MvSt.new (w : World) : MvSt w ((w.alloc (.cells #[.int .i64 0, .int .i64 0] 213)).alloc (.cells #[.int .i64 0, .int .i64 0] 213)) 0 0 := by
  refine ⟨(Blk.new _ _ _).alloc _, ?_, ((Below.refl _ _).alloc (Nat.le_refl _) _).alloc (by simp) _⟩
  have := Blk.new (w.alloc (.cells #[.int .i64 0, .int .i64 0] 213)) #[.int .i64 0, .int .i64 0] 213
  simpa using this
theorem inC_no {ch : List Bool} {a : Int} (h : a < 0 ∨ (ch.length : Int) ≤ a) : inC ch a = false := by
  unfold inC
  rcases h with h | h
  · have : ¬ 0 ≤ a := by omega
    simp [this]
  · have : ¬ a < ch.length := by omega
    simp [this]
theorem inC_at {ch : List Bool} {k : Nat} {v : Bool} (h : ch[k]? = some v) : inC ch (k : Int) = v := by
  have hl : k < ch.length := (List.getElem?_eq_some_iff.1 h).1
  unfold inC
  rw [Int.toNat_natCast, List.getD_eq_getElem?_getD, h]
  simp; omega

set_option maxRecDepth 100000 in
set_option maxHeartbeats 8000000 in
theorem movement_any (B p B2 : Nat) (s : Bk) (vc : Value) (ch : List Bool) (a b : Int) (w : World) (h : Led w B p s) (hch : w.ownsRow B2 4 1 vc ch.length (ch.map .bool)) (hc16 : ch.length ≤ 16) :
    Calls Tryz.prog 185 #[.pointer (some ⟨p, 0, none⟩), vc, .int .i64 a, .int .i64 b] w fun e w' => e = .returned (.agg #[.int .i64 (tkT (inC ch) a b s.txs).1, .int .i64 (tkT (inC ch) a b s.txs).2]) ∧ Below w.heap.size w w' := by
  obtain ⟨va, vt, tv, dk, h⟩ := h
  obtain ⟨ao, cap, rfl⟩ := ownsRow_form h.txs.own
  obtain ⟨aoc, capc, rfl⟩ := ownsRow_form hch
  have c1 := h.blk.cell 1
  have hpl := h.blk.lt
  simp only [List.getElem?_toArray, List.getElem?_cons_zero, List.getElem?_cons_succ] at c1
  have hlen : tv.length ≤ 64 := by have := h.good.posts; rw [← h.jr, List.length_map] at this; exact this
  have Hjr := hide h.jr
  obtain ⟨q, hq⟩ : ∃ q, inC ch = q := ⟨_, rfl⟩
  have Hq := hide hq
  rw [hq]
  have H := hide h
  have Hch := hide hch
  clear h hq hch
  go_enter Tryz.func185, Tryz.ntmps185
  go_wp2_with fail
  obtain ⟨W0, hW0⟩ : ∃ W0, (w.alloc (.cells #[.int .i64 0, .int .i64 0] 213)).alloc (.cells #[.int .i64 0, .int .i64 0] 213) = W0 := ⟨_, rfl⟩
  have HM0 : Hid (MvSt w W0 0 0) := by rw [← hW0]; exact MvSt.new w
  rw [hW0]
  clear hW0
  go_loopg [21] tv.length (fun m i wr => ∃ j : Nat, ∃ x : Int, ∃ c : Int, j ≤ tv.length ∧ m = tv.length - j ∧ i = .int .i64 j ∧ -(4000000000000 * (j : Int)) ≤ x ∧ x ≤ 4000000000000 * (j : Int) ∧ 0 ≤ c ∧ c ≤ 4 * (j : Int) ∧ Hid (x + (tkT q a b (s.txs.drop j)).1 = (tkT q a b s.txs).1 ∧ c + (tkT q a b (s.txs.drop j)).2 = (tkT q a b s.txs).2) ∧ Hid (MvSt w wr x c))
  case atStart => exact ⟨0, 0, 0, by omega, rfl, rfl, by omega, by omega, by omega, by omega, ⟨by simp, by simp⟩, unhide HM0⟩
  case round =>
    obtain ⟨j, x, c, hj, rfl, rfl, hx0, hx1, hc0, hc1, Ho, Hm⟩ := hrel
    have hsz := (unhide Hm).bel.size
    by_cases hlt : j < tv.length
    · obtain ⟨⟨t, v⟩, ht⟩ : ∃ t, tv[j]? = some t := ⟨tv[j], List.getElem?_eq_getElem hlt⟩
      obtain ⟨g, _, e1, hg, hg'⟩ := ownsRow_some (unhide H).txs.own (by omega)
      simp only [Value.slice.injEq, true_and] at e1
      obtain ⟨rfl, rfl⟩ := e1
      have h3 := three_get (fun x : Tn × Value => Value.int .i64 x.1.1) (fun x => .int .i64 x.1.2.1) (fun x => x.2) tv j (t, v) ht
      have hro := ownsRow_below (unhide H).txs.own (unhide Hm).bel
      have d0 := ownsRow_cell hro (j := j * 3) h3.1
      have d1 := ownsRow_cell hro (j := j * 3 + 1) h3.2.1
      have d2 := ownsRow_cell hro (j := j * 3 + 2) h3.2.2
      have hmem := List.mem_of_getElem? ht
      have hl := (unhide H).txs.lns _ hmem
      have hst : s.txs[j]? = some t := by rw [← unhide Hjr, List.getElem?_map, ht]; rfl
      have hgt := (unhide H).good.tx t (List.mem_of_getElem? hst)
      have Hst := hide (tkT_O (q := q) (a := a) (b := b) hst)
      obtain ⟨ti, td, ls⟩ := t
      simp only at d0 d1 d2 hl hgt Hst
      obtain ⟨aol, capl, rfl⟩ := ownsRow_form hl
      have hl4 := hgt.2.2.2.2.1
      have Hlb := hide hgt.2.2.2.2.2
      have Hl := hide hl
      clear h3 hro hmem hl hst hgt ht
      obtain ⟨ok, hok⟩ : ∃ ok, inD a b td = ok := ⟨_, rfl⟩
      rw [hok] at Hst
      have Hno : Hid (ok = false → x + (tkT q a b (s.txs.drop (j + 1))).1 = (tkT q a b s.txs).1 ∧ c + (tkT q a b (s.txs.drop (j + 1))).2 = (tkT q a b s.txs).2) := by
        intro h0
        have h1 := unhide Ho
        have h2 := unhide Hst
        rw [h0] at h2
        simp only [tkO, Bool.false_eq_true, if_false] at h2
        omega
      by_cases e1 : td < a
      · have Hn := hide (unhide Hno (by rw [← hok]; unfold inD; have : ¬ a ≤ td := (by omega); simp [this]))
        go_wp2_with fail
        go_roundg (tv.length - (j + 1))
        case measure => omega
        case rel => exact ⟨j + 1, x, c, by omega, rfl, by go_num, by omega, by omega, by omega, by omega, unhide Hn, (unhide Hm).alloc _⟩
      by_cases e2 : b < td
      · have Hn := hide (unhide Hno (by rw [← hok]; unfold inD; have : ¬ td ≤ b := (by omega); simp [this]))
        go_wp2_with fail
        go_roundg (tv.length - (j + 1))
        case measure => omega
        case rel => exact ⟨j + 1, x, c, by omega, rfl, by go_num, by omega, by omega, by omega, by omega, unhide Hn, (unhide Hm).alloc _⟩
      obtain rfl : ok = true := by rw [← hok]; unfold inD; have h1 : a ≤ td := by omega
                                   have h2 : td ≤ b := by omega
                                   simp [h1, h2]
      clear Hno hok
      go_wp2_with fail
      obtain ⟨W, hW⟩ : ∃ W, W = wr.alloc (.cells #[.int .i64 ti, .int .i64 td, .slice aol ls.length capl] 148) := ⟨_, rfl⟩
      have HmW : Hid (MvSt w W x c) := by rw [hW]; exact (unhide Hm).alloc _
      rw [← hW]
      clear hW
      go_loopg [38] ls.length (fun m i wx => ∃ k : Nat, ∃ y : Int, ∃ z : Int, k ≤ ls.length ∧ m = ls.length - k ∧ i = .int .i64 k ∧ -(4000000000000 * (j : Int)) - 1000000000000 * (k : Int) ≤ y ∧ y ≤ 4000000000000 * (j : Int) + 1000000000000 * (k : Int) ∧ 0 ≤ z ∧ z ≤ 4 * (j : Int) + k ∧ Hid (y + (tkO true q (ls.drop k)).1 = x + (tkO true q ls).1 ∧ z + (tkO true q (ls.drop k)).2 = c + (tkO true q ls).2) ∧ Hid (MvSt w wx y z))
      case atStart => exact ⟨0, x, c, by omega, rfl, rfl, by omega, by omega, by omega, by omega, ⟨by simp, by simp⟩, unhide HmW⟩
      case round =>
        obtain ⟨k, y, z, hk, rfl, rfl, hy0, hy1, hz0, hz1, Hy, Hmx⟩ := hrel
        have hszx := (unhide Hmx).bel.size
        have m0 := (unhide Hmx).mv.cell 0
        have m1 := (unhide Hmx).mv.cell 1
        have y0 := (unhide Hmx).mv.frozen 0
        have y1 := (unhide Hmx).mv.frozen 1
        have lm := (unhide Hmx).mv.lt
        simp only [List.getElem?_toArray, List.getElem?_cons_zero, List.getElem?_cons_succ] at m0 m1
        by_cases hlt2 : k < ls.length
        · obtain ⟨⟨la, lm⟩, hlk⟩ : ∃ l, ls[k]? = some l := ⟨ls[k], List.getElem?_eq_getElem hlt2⟩
          obtain ⟨g2, _, e1, hg2, hg2'⟩ := ownsRow_some (unhide Hl) (by omega)
          simp only [Value.slice.injEq, true_and] at e1
          obtain ⟨rfl, rfl⟩ := e1
          have h2 := two_get (fun x : Ln => Value.int .i64 x.1) (fun x => .int .i64 x.2) ls k (la, lm) hlk
          have hlx := ownsRow_below (unhide Hl) (unhide Hmx).bel
          have f0 := ownsRow_cell hlx (j := k * 2) h2.1
          have f1 := ownsRow_cell hlx (j := k * 2 + 1) h2.2
          clear hlx
          have hb := unhide Hlb (la, lm) (List.mem_of_getElem? hlk)
          have Hyes := hide (tkO_yes (ok := true) (q := q) hlk)
          have Hno := hide (tkO_no (ok := true) (q := q) hlk)
          simp only at f0 f1 hb Hyes Hno
          have hwr : IntKind.i64.wrap (y + lm) = y + lm := by rw [IntKind.wrap_i64]; omega
          have hwz : IntKind.i64.wrap (z + 1) = z + 1 := by rw [IntKind.wrap_i64]; omega
          have Hlm : Hid (lm ≤ 1000000000000 ∧ -1000000000000 ≤ lm) := ⟨hb.2.2.2, hb.2.2.1⟩
          obtain ⟨n, rfl⟩ : ∃ n : Nat, la = n := ⟨la.toNat, by omega⟩
          clear h2 hlk hb
          by_cases hin : n < ch.length
          · obtain ⟨v, hv⟩ : ∃ v, ch[n]? = some v := ⟨ch[n], List.getElem?_eq_getElem hin⟩
            obtain ⟨gc, _, e1, hgc, hgc'⟩ := ownsRow_some (unhide Hch) (by omega)
            simp only [Value.slice.injEq, true_and] at e1
            obtain ⟨rfl, rfl⟩ := e1
            have hcc := ownsRow_below (unhide Hch) (unhide Hmx).bel
            have fc := ownsRow_cell hcc (j := n) (u := .bool v) (by rw [List.getElem?_map, hv]; rfl)
            have Hqv : Hid (q (n : Int) = v) := by show _ = _; rw [← unhide Hq]; exact inC_at hv
            have ncl : (n : Int) < (ch.length : Int) := by omega
            have hgl : gc < wr.heap.size := by omega
            clear hcc hv
            cases v with
            | true =>
              have Hn := hide (unhide Hyes (by simp) (unhide Hqv))
              go_wp2_with fail
              go_roundg (ls.length - (k + 1))
              case measure => omega
              case rel => exact ⟨k + 1, y + lm, z + 1, by omega, rfl, by go_num, by have := unhide Hlm; omega, by have := unhide Hlm; omega, by omega, by omega, by have h1 := unhide Hy; have h2 := unhide Hn; show _ ∧ _; omega, (((unhide Hmx).add _ _).alloc _)⟩
            | false =>
              have Hn := hide (unhide Hno (.inl (unhide Hqv)))
              go_wp2_with fail
              go_roundg (ls.length - (k + 1))
              case measure => omega
              case rel => exact ⟨k + 1, y, z, by omega, rfl, by go_num, by omega, by omega, by omega, by omega, by have h1 := unhide Hy; have h2 := unhide Hn; show _ ∧ _; omega, (unhide Hmx).alloc _⟩
          · have Hqv : Hid (q (n : Int) = false) := by show _ = _; rw [← unhide Hq]; exact inC_no (.inr (by omega))
            have Hn := hide (unhide Hno (.inl (unhide Hqv)))
            have ncl : ¬ (n : Int) < (ch.length : Int) := by omega
            go_wp2_with fail
            go_roundg (ls.length - (k + 1))
            case measure => omega
            case rel => exact ⟨k + 1, y, z, by omega, rfl, by go_num, by omega, by omega, by omega, by omega, by have h1 := unhide Hy; have h2 := unhide Hn; show _ ∧ _; omega, (unhide Hmx).alloc _⟩
        · obtain rfl : k = ls.length := by omega
          have hyy : y = x + (tkO true q ls).1 ∧ z = c + (tkO true q ls).2 := by have := unhide Hy; rw [tkO_end] at this; simpa using this
          have Ho2 : Hid (y + (tkT q a b (s.txs.drop (j + 1))).1 = (tkT q a b s.txs).1 ∧ z + (tkT q a b (s.txs.drop (j + 1))).2 = (tkT q a b s.txs).2) := by
            have h1 := unhide Ho
            have h2 := unhide Hst
            show _ ∧ _
            omega
          clear hyy
          go_wp2_with fail
          go_roundg (tv.length - (j + 1))
          case measure => omega
          case rel => exact ⟨j + 1, y, z, by omega, rfl, by go_num, by omega, by omega, by omega, by omega, unhide Ho2, unhide Hmx⟩
    · obtain rfl : j = tv.length := by omega
      have Hfin : Hid (x = (tkT q a b s.txs).1 ∧ c = (tkT q a b s.txs).2) := by
        have := unhide Ho
        rw [List.drop_of_length_le (by rw [← unhide Hjr, List.length_map]; exact Nat.le_refl _)] at this
        show _ ∧ _
        simpa [tkT] using this
      have m0 := (unhide Hm).mv.cell 0
      have m1 := (unhide Hm).mv.cell 1
      have r0 := (unhide Hm).res.cell 0
      have r1 := (unhide Hm).res.cell 1
      have y0 := (unhide Hm).res.frozen 0
      have y1 := (unhide Hm).res.frozen 1
      have lr := (unhide Hm).res.lt
      simp only [List.getElem?_toArray, List.getElem?_cons_zero, List.getElem?_cons_succ] at m0 m1 r0 r1
      go_wp2_with fail
      refine bodyPost_ret (v := .agg #[.int .i64 x, .int .i64 c]) (by simp [results, Tryz.results185, go_sem, r0, r1]) rfl ⟨?_, ?_⟩
      · rw [(unhide Hfin).1, (unhide Hfin).2]
      · exact ((unhide Hm).bel.setCell (by simp) _).setCell (by simp) _

end Go.Proofs.YtdchbenfccofpaaGreatDoor
namespace Go.Proofs.YtdchbenfccofpaaGreatDoor
open Go.RowKit Db

theorem info_bool : (Tryz.prog.info? 4).map (fun i => (i.zero, i.size, i.bytes)) = some (some (.bool false), 1, 1) := by kernel_rfl
/-- What account n alone, or it and all below it, come to in a period. -/
def aloneM (s : Bk) (n a b : Int) : Int × Int := tkT (fun x => x == n) a b s.txs
def belowM (s : Bk) (n a b : Int) : Int × Int := tkT (wth s.acs n 16) a b s.txs
/-- The choosing of accounts: the answer's block, the list so far. -/
structure ChSt (w wr : World) (v : Value) (ch : List Bool) : Prop where
  res : Blk wr w.heap.size #[.int .i64 0, .int .i64 0] 213
  own : wr.ownsRow (w.heap.size + 1) 4 1 v ch.length (ch.map .bool)
  bel : Below w.heap.size w wr
theorem ChSt.new (w : World) : ChSt w (w.alloc (.cells #[.int .i64 0, .int .i64 0] 213)) (.slice none 0 0) [] :=
  ⟨Blk.new _ _ _, World.ownsRow_nil _ _ _ _, (Below.refl _ _).alloc (Nat.le_refl _) _⟩
theorem ChSt.alloc {w wr : World} {v : Value} {ch : List Bool} (h : ChSt w wr v ch) (o : Obj) : ChSt w (wr.alloc o) v ch := ⟨h.res.alloc o, h.own.alloc o, h.bel.alloc h.bel.size o⟩
theorem ChSt.push {w wr w5 : World} {v v' : Value} {ch : List Bool} {x : Bool} {o : Obj} (h : ChSt w wr v ch) (hown : w5.ownsRow (w.heap.size + 1) 4 1 v' (ch.length + 1) (ch.map .bool ++ [.bool x])) (hgr : (wr.alloc o).grownBy w5 v.ownBlock) : ChSt w w5 v' (ch ++ [x]) := by
  refine ⟨(h.res.alloc o).grown hgr (fun e => ?_), by simpa using hown, (h.bel.alloc h.bel.size o).grown hgr (by have := h.bel.size; simp; omega) (fun g hg => ?_)⟩
  · have := (h.own.lt _ e.symm).1; omega
  · have := (h.own.lt g hg).1; omega
theorem cell_one_at (w : World) (n : Nat) (hn : n = w.heap.size) (x : Value) (t : TypeId) : ∀ j u, [x][j]? = some u → (w.alloc (.cells #[x] t)).cell? ((⟨n, 0, none⟩ : Addr).add j) = some u := by
  subst hn; exact cell_one_new _ _ _
theorem chO_snoc (n : Int) (m : Nat) : chO n (m + 1) = chO n m ++ [decide ((m : Int) = n)] := by
  unfold chO; rw [List.range_succ, List.map_append]; rfl
theorem chO_len (n : Int) (m : Nat) : (chO n m).length = m := by simp [chO]
theorem beq_dec (a b : Int) : (a == b) = decide (a = b) := by
  by_cases h : a = b <;> simp [h]

set_option maxRecDepth 100000 in
set_option maxHeartbeats 4000000 in
theorem alone_any (B p : Nat) (s : Bk) (n a b : Int) (w : World) (h : Led w B p s) :
    Calls Tryz.prog 141 #[.pointer (some ⟨p, 0, none⟩), .int .i64 n, .int .i64 a, .int .i64 b] w fun e w' => e = .returned (.agg #[.int .i64 (aloneM s n a b).1, .int .i64 (aloneM s n a b).2]) ∧ Below w.heap.size w w' := by
  obtain ⟨va, vt, tv, dk, h⟩ := h
  obtain ⟨ii, hi, hz0, hz1, hz2⟩ := info_parts info_bool
  obtain ⟨g, cap, rfl, hg, hg'⟩ := ownsRow_some h.acs h.good.one
  have c0 := h.blk.cell 0
  have hpl := h.blk.lt
  simp only [List.getElem?_toArray, List.getElem?_cons_zero] at c0
  have hfew := h.good.few
  have H := hide h
  clear h
  go_enter Tryz.func141, Tryz.ntmps141
  go_wp2_with fail
  go_loopg [9, 16] s.acs.length (fun m v i wr => ∃ j : Nat, j ≤ s.acs.length ∧ m = s.acs.length - j ∧ i = .int .i64 j ∧ Hid (ChSt w wr v (chO n j)))
  case atStart => exact ⟨0, by omega, rfl, rfl, ChSt.new w⟩
  case round =>
    obtain ⟨j, hj, rfl, rfl, Hc⟩ := hrel
    obtain ⟨aov, capv, hv⟩ := ownsRow_form (unhide Hc).own
    rw [chO_len] at hv
    subst hv
    have hszc := (unhide Hc).bel.size
    have hlen := chO_len n j
    by_cases hlt : j < s.acs.length
    · have hd := beq_dec (j : Int) n
      go_wp2_with (first
        | (at_builtin; refine wpList_append_own _ rfl (.tmp 19) (.tmp 23) 60 rfl (w.heap.size + 1) 4 ii (.bool false) 1 1 Tryz.underlying60 hi hz0 hz1 hz2 rfl (by decide) (.slice aov j capv) j _ rfl (by have := (unhide Hc).own.alloc (.cells #[.bool ((j : Int) == n)] 4); rw [hlen] at this; exact this) ⟨wr.heap.size, 0, none⟩ 1 1 [.bool ((j : Int) == n)] rfl rfl (cell_one_new _ _ _) (fun x hx => by simp at hx; subst hx; rfl) (by unfold maxLen; omega) (by omega) (by simp; omega) ?_; intro v' w5 hown5 hgr5 _))
      have Hc5 : Hid (ChSt w w5 v' (chO n (j + 1))) := by
        rw [chO_snoc]
        have h1 := hown5
        rw [hd] at h1
        exact (unhide Hc).push (by rw [hlen]; exact h1) hgr5
      clear hown5 hgr5
      go_wp2_with fail
      go_roundg (s.acs.length - (j + 1))
      case measure => omega
      case rel => exact ⟨j + 1, by omega, rfl, by go_num, unhide Hc5⟩
    · obtain rfl : j = s.acs.length := by omega
      have Hm := hide (movement_any B p (w.heap.size + 1) s _ (chO n s.acs.length) a b wr ⟨_, _, _, _, (unhide H).kept (unhide Hc).bel⟩ (unhide Hc).own (by rw [hlen]; exact hfew))
      rw [tk_chO (unhide H).good] at Hm
      have r0 := (unhide Hc).res.cell 0
      have r1 := (unhide Hc).res.cell 1
      simp only [List.getElem?_toArray, List.getElem?_cons_zero, List.getElem?_cons_succ] at r0 r1
      go_wp2_with fail
      refine (unhide Hm).mono ?_
      rintro e w2 ⟨rfl, hb2⟩
      have HR := hide ((unhide Hc).res.kept hb2)
      obtain ⟨r0, r1, z0, z1, lr⟩ := two_cells (unhide HR)
      have Hb2 := hide ((unhide Hc).bel.then' hszc hb2)
      clear hb2 Hm
      go_wp2_with fail
      refine bodyPost_ret (v := .agg #[.int .i64 (aloneM s n a b).1, .int .i64 (aloneM s n a b).2]) (by simp [results, Tryz.results141, go_sem, r0, r1, aloneM]) rfl ⟨rfl, ?_⟩
      exact ((unhide Hb2).setCell (by simp) _).setCell (by simp) _

set_option maxRecDepth 100000 in
set_option maxHeartbeats 4000000 in
theorem below_any (B p : Nat) (s : Bk) (n a b : Int) (w : World) (h : Led w B p s) :
    Calls Tryz.prog 216 #[.pointer (some ⟨p, 0, none⟩), .int .i64 n, .int .i64 a, .int .i64 b] w fun e w' => e = .returned (.agg #[.int .i64 (belowM s n a b).1, .int .i64 (belowM s n a b).2]) ∧ Below w.heap.size w w' := by
  obtain ⟨va, vt, tv, dk, h⟩ := h
  obtain ⟨ii, hi, hz0, hz1, hz2⟩ := info_parts info_bool
  obtain ⟨g, cap, rfl, hg, hg'⟩ := ownsRow_some h.acs h.good.one
  have c0 := h.blk.cell 0
  have hpl := h.blk.lt
  simp only [List.getElem?_toArray, List.getElem?_cons_zero] at c0
  have hfew := h.good.few
  have H := hide h
  clear h
  go_enter Tryz.func216, Tryz.ntmps216
  go_wp2_with fail
  go_loopg [9, 18] s.acs.length (fun m v i wr => ∃ j : Nat, j ≤ s.acs.length ∧ m = s.acs.length - j ∧ i = .int .i64 j ∧ Hid (ChSt w wr v (chs n (s.acs.take j))))
  case atStart => exact ⟨0, by omega, rfl, rfl, ChSt.new w⟩
  case round =>
    obtain ⟨j, hj, rfl, rfl, Hc⟩ := hrel
    obtain ⟨aov, capv, hv⟩ := ownsRow_form (unhide Hc).own
    have hlen : (chs n (s.acs.take j)).length = j := by rw [chs_len, List.length_take]; omega
    rw [hlen] at hv
    subst hv
    have hszc := (unhide Hc).bel.size
    by_cases hlt : j < s.acs.length
    · obtain ⟨⟨cp, cx⟩, hc⟩ := acs_get hlt
      have hro := ownsRow_below (unhide H).acs (unhide Hc).bel
      have h2 := two_get (fun a : Ac => Value.int .i64 a.1) (fun a => .bool a.2) s.acs j (cp, cx) hc
      have d1 := ownsRow_cell hro (j := j * 2) h2.1
      have d2 := ownsRow_cell hro (j := j * 2 + 1) h2.2
      have hgl : g < wr.heap.size := by omega
      simp only at d1 d2
      obtain ⟨bw, hbw⟩ : ∃ bw, inC (chs n (s.acs.take j)) cp = bw := ⟨_, rfl⟩
      obtain ⟨r, hr⟩ : ∃ r, (bw || decide ((j : Int) = n)) = r := ⟨_, rfl⟩
      have hch : chs n (s.acs.take (j + 1)) = chs n (s.acs.take j) ++ [r] := by
        rw [List.take_add_one, hc]
        simp only [Option.toList_some]
        rw [chs_snoc]
        congr 2
        unfold chsB
        rw [hlen, ← hr, ← hbw]
        unfold inC
        rw [hlen]
      have Hch := hide hch
      have hd := beq_dec (j : Int) n
      have hcase : (cp < 0 ∧ bw = false) ∨ (0 ≤ cp ∧ (j : Int) ≤ cp ∧ bw = false) ∨ (∃ k : Nat, cp = k ∧ k < j ∧ (chs n (s.acs.take j))[k]? = some bw) := by
        by_cases h1 : cp < 0
        · exact .inl ⟨h1, by rw [← hbw]; exact inC_no (.inl h1)⟩
        · by_cases h3 : (j : Int) ≤ cp
          · exact .inr (.inl ⟨by omega, h3, by rw [← hbw]; exact inC_no (.inr (by rw [hlen]; exact h3))⟩)
          · obtain ⟨k, rfl⟩ : ∃ k : Nat, cp = k := ⟨cp.toNat, by omega⟩
            refine .inr (.inr ⟨k, rfl, by omega, ?_⟩)
            have hkl : k < (chs n (s.acs.take j)).length := by omega
            rw [List.getElem?_eq_getElem hkl, ← hbw]
            rw [inC_at (List.getElem?_eq_getElem hkl)]
      have Hr : Hid (r = (bw || ((j : Int) == n))) := by show _ = _; rw [hd, hr]
      have HL : Hid (∀ u : Bool, (bw || ((j : Int) == n)) = u → r = u) := fun u hu => by rw [unhide Hr, hu]
      have Hgo : Hid (∀ (v' : Value) (w5 : World) (o : Obj), w5.ownsRow (w.heap.size + 1) 4 1 v' (j + 1) ((chs n (s.acs.take j)).map .bool ++ [.bool r]) → ((wr.alloc (.cells #[.int .i64 cp, .bool cx] 143)).alloc o).grownBy w5 (Value.slice aov j capv).ownBlock → ChSt w w5 v' (chs n (s.acs.take (j + 1)))) := by
        intro v' w5 o h1 h2
        rw [unhide Hch]
        exact ((unhide Hc).alloc _).push (by rw [hlen]; exact h1) h2
      have Hown := hide (unhide Hc).own
      rw [hlen] at Hown
      clear hro h2 hc hch hr hbw
      rcases hcase with ⟨h1, rfl⟩ | ⟨h1, h3, rfl⟩ | ⟨k, rfl, hkj, hkv⟩
      · have hneg : ¬ 0 ≤ cp := by omega
        have hrr : r = ((j : Int) == n) := by have := unhide Hr; simpa using this
        go_wp2_with (first
          | (at_builtin; refine wpList_append_own _ rfl (.tmp 40) (.tmp 47) 60 rfl (w.heap.size + 1) 4 ii (.bool false) 1 1 Tryz.underlying60 hi hz0 hz1 hz2 rfl (by decide) (.slice aov j capv) j _ rfl (((unhide Hown).alloc _).alloc _) ⟨wr.heap.size + 1, 0, none⟩ 1 1 [.bool ((j : Int) == n)] rfl rfl (cell_one_at _ _ (by simp) _ _) (fun x hx => by simp at hx; subst hx; rfl) (by unfold maxLen; omega) (by omega) (by simp; omega) ?_; intro v' w5 hown5 hgr5 _))
        have Hc5 : Hid (ChSt w w5 v' (chs n (s.acs.take (j + 1)))) := unhide Hgo v' w5 _ (by rw [hrr]; exact hown5) hgr5
        clear hown5 hgr5
        go_wp2_with fail
        go_roundg (s.acs.length - (j + 1))
        case measure => omega
        case rel => exact ⟨j + 1, by omega, rfl, by go_num, unhide Hc5⟩
      · have hge : ¬ cp < (j : Int) := by omega
        have hrr : r = ((j : Int) == n) := by have := unhide Hr; simpa using this
        go_wp2_with (first
          | (at_builtin; refine wpList_append_own _ rfl (.tmp 40) (.tmp 47) 60 rfl (w.heap.size + 1) 4 ii (.bool false) 1 1 Tryz.underlying60 hi hz0 hz1 hz2 rfl (by decide) (.slice aov j capv) j _ rfl (((unhide Hown).alloc _).alloc _) ⟨wr.heap.size + 1, 0, none⟩ 1 1 [.bool ((j : Int) == n)] rfl rfl (cell_one_at _ _ (by simp) _ _) (fun x hx => by simp at hx; subst hx; rfl) (by unfold maxLen; omega) (by omega) (by simp; omega) ?_; intro v' w5 hown5 hgr5 _))
        have Hc5 : Hid (ChSt w w5 v' (chs n (s.acs.take (j + 1)))) := unhide Hgo v' w5 _ (by rw [hrr]; exact hown5) hgr5
        clear hown5 hgr5
        go_wp2_with fail
        go_roundg (s.acs.length - (j + 1))
        case measure => omega
        case rel => exact ⟨j + 1, by omega, rfl, by go_num, unhide Hc5⟩
      · obtain ⟨gv, capv', e1, hgv, hgv'⟩ := ownsRow_some (unhide Hown) (by omega)
        simp only [Value.slice.injEq, true_and] at e1
        obtain ⟨rfl, rfl⟩ := e1
        have dk := ownsRow_cell (unhide Hown) (j := k) (u := .bool bw) (by rw [List.getElem?_map, hkv]; rfl)
        have hkj' : (k : Int) < (j : Int) := by omega
        clear hkv
        cases bw with
        | true =>
          have hrr : r = true := by have := unhide Hr; simpa using this
          go_wp2_with (first
            | (at_builtin; refine wpList_append_own _ rfl (.tmp 40) (.tmp 47) 60 rfl (w.heap.size + 1) 4 ii (.bool false) 1 1 Tryz.underlying60 hi hz0 hz1 hz2 rfl (by decide) (.slice (some ⟨gv, 0, none⟩) j capv) j _ rfl (((unhide Hown).alloc _).alloc _) ⟨wr.heap.size + 1, 0, none⟩ 1 1 [.bool true] rfl rfl (cell_one_at _ _ (by simp) _ _) (fun x hx => by simp at hx; subst hx; rfl) (by unfold maxLen; omega) (by omega) (by simp; omega) ?_; intro v' w5 hown5 hgr5 _))
          have Hc5 : Hid (ChSt w w5 v' (chs n (s.acs.take (j + 1)))) := unhide Hgo v' w5 _ (by rw [hrr]; exact hown5) hgr5
          clear hown5 hgr5
          go_wp2_with fail
          go_roundg (s.acs.length - (j + 1))
          case measure => omega
          case rel => exact ⟨j + 1, by omega, rfl, by go_num, unhide Hc5⟩
        | false =>
          have hrr : r = ((j : Int) == n) := by have := unhide Hr; simpa using this
          go_wp2_with (first
            | (at_builtin; refine wpList_append_own _ rfl (.tmp 40) (.tmp 47) 60 rfl (w.heap.size + 1) 4 ii (.bool false) 1 1 Tryz.underlying60 hi hz0 hz1 hz2 rfl (by decide) (.slice (some ⟨gv, 0, none⟩) j capv) j _ rfl (((unhide Hown).alloc _).alloc _) ⟨wr.heap.size + 1, 0, none⟩ 1 1 [.bool ((j : Int) == n)] rfl rfl (cell_one_at _ _ (by simp) _ _) (fun x hx => by simp at hx; subst hx; rfl) (by unfold maxLen; omega) (by omega) (by simp; omega) ?_; intro v' w5 hown5 hgr5 _))
          have Hc5 : Hid (ChSt w w5 v' (chs n (s.acs.take (j + 1)))) := unhide Hgo v' w5 _ (by rw [hrr]; exact hown5) hgr5
          clear hown5 hgr5
          go_wp2_with fail
          go_roundg (s.acs.length - (j + 1))
          case measure => omega
          case rel => exact ⟨j + 1, by omega, rfl, by go_num, unhide Hc5⟩
    · obtain rfl : j = s.acs.length := by omega
      have htk : s.acs.take s.acs.length = s.acs := List.take_length
      have Hc' := hide (unhide Hc)
      rw [htk] at Hc' hlen
      have Hm := hide (movement_any B p (w.heap.size + 1) s _ (chs n s.acs) a b wr ⟨_, _, _, _, (unhide H).kept (unhide Hc).bel⟩ (unhide Hc').own (by rw [hlen]; exact hfew))
      rw [tk_chs (unhide H).good] at Hm
      have r0 := (unhide Hc).res.cell 0
      have r1 := (unhide Hc).res.cell 1
      simp only [List.getElem?_toArray, List.getElem?_cons_zero, List.getElem?_cons_succ] at r0 r1
      clear htk
      go_wp2_with fail
      refine (unhide Hm).mono ?_
      rintro e w2 ⟨rfl, hb2⟩
      have HR := hide ((unhide Hc).res.kept hb2)
      obtain ⟨r0, r1, z0, z1, lr⟩ := two_cells (unhide HR)
      have Hb2 := hide ((unhide Hc).bel.then' hszc hb2)
      clear hb2 Hm
      go_wp2_with fail
      refine bodyPost_ret (v := .agg #[.int .i64 (belowM s n a b).1, .int .i64 (belowM s n a b).2]) (by simp [results, Tryz.results216, go_sem, r0, r1, belowM]) rfl ⟨rfl, ?_⟩
      exact ((unhide Hb2).setCell (by simp) _).setCell (by simp) _
end Go.Proofs.YtdchbenfccofpaaGreatDoor
namespace Go.Proofs.YtdchbenfccofpaaGreatDoor
open Go.RowKit Db

theorem own_set {w : World} {B g n cap i : Nat} {e : TypeId} {size : Nat} {xs : List Value} (h : w.ownsRow B e size (.slice (some ⟨g, 0, none⟩) n cap) n xs) (v : Value) :
    (w.setCell ⟨g, i, none⟩ v).ownsRow B e size (.slice (some ⟨g, 0, none⟩) n cap) n (xs.set i v) := by
  refine ⟨by rw [List.length_set]; exact h.1, ?_⟩
  rcases h.2 with ⟨h0, _⟩ | ⟨g', cap', cur, h0, hB, hg, hn, hc, hs, ht⟩
  · cases h0
  · simp only [Value.slice.injEq, Option.some.injEq, Addr.mk.injEq, and_true, true_and] at h0
    obtain ⟨rfl, rfl⟩ := h0
    refine .inr ⟨g, cap, cur.setIfInBounds i v, rfl, hB, ?_, hn, hc, by simpa using hs, ?_⟩
    · simp [World.setCell, Array.getElem?_modify, hg]
    · rw [Array.toList_setIfInBounds, List.take_set, ht]
theorem flat2_set {α : Type} (f g : α → Value) (b : α) (l : List α) : ∀ (k : Nat) (a : α), l[k]? = some a → f b = f a → (l.set k b).flatMap (fun x => [f x, g x]) = (l.flatMap fun x => [f x, g x]).set (k * 2 + 1) (g b) := by
  induction l with
  | nil => intro k a h; simp at h
  | cons x t ih =>
    intro k a h hf
    cases k with
    | zero => simp at h; subst h; simp [hf]
    | succ k =>
      simp only [List.getElem?_cons_succ] at h
      have := ih k a h hf
      simp only [List.set_cons_succ, List.flatMap_cons, List.cons_append, List.nil_append]
      rw [this, show (k + 1) * 2 = (k * 2 + 1) + 1 by omega]
      simp
theorem cellsA_shut {l : List Ac} {k : Nat} {c : Ac} (h : l[k]? = some c) : cellsA (l.set k (c.1, true)) = (cellsA l).set (k * 2 + 1) (.bool true) :=
  flat2_set (fun a : Ac => Value.int .i64 a.1) (fun a => .bool a.2) (c.1, true) l k c h rfl

theorem LedAt.shut {w : World} {B p g cap k : Nat} {vt : Value} {tv : List (Tn × Value)} {d : Dk} {s : Bk} {c : Ac} (h : LedAt w B p (.slice (some ⟨g, 0, none⟩) s.acs.length cap) vt tv d s) (hc : s.acs[k]? = some c) (hg : BkGood { s with acs := s.acs.set k (c.1, true) }) (hcn : cnt s ≤ cnt { s with acs := s.acs.set k (c.1, true) }) :
    LedAt (w.setCell ⟨g, k * 2 + 1, none⟩ (.bool true)) B p (.slice (some ⟨g, 0, none⟩) s.acs.length cap) vt tv d { s with acs := s.acs.set k (c.1, true) } ∧ FrT B tP w (w.setCell ⟨g, k * 2 + 1, none⟩ (.bool true)) := by
  have ht := ownsRow_tg h.acs g rfl
  have f1 : FrT B [143] w (w.setCell ⟨g, k * 2 + 1, none⟩ (.bool true)) := (FrT.refl _ _ w).setCell (T := 143) (by simp) ht.2 ht.1 _
  refine ⟨⟨h.blk.frT f1 (by decide), h.lo, ?_, h.txs.frT f1 (by decide) (by decide), h.jr, hg, ownsRow_frT h.dsk f1 (by decide), h.dlen, Nat.le_trans h.dcnt hcn⟩, f1.mono (by simp [tP])⟩
  simp only [List.length_set]
  rw [cellsA_shut hc]
  exact own_set h.acs _

theorem cls_none {s : Bk} {a : Int} (h : ther s a = false ∨ a = 0) : cls s a = (7, s) := by unfold cls; rw [if_pos h]
theorem cls_shut {s : Bk} {a : Int} (h : ther s a = true) (h0 : ¬ a = 0) (hc : clsd s a = true) : cls s a = (8, s) := by unfold cls; rw [if_neg (by simp [h, h0]), if_pos hc]
theorem cls_open {s : Bk} {a : Int} (h : ther s a = true) (h0 : ¬ a = 0) (hc : clsd s a = false) (ho : opb a s.acs = true) : cls s a = (9, s) := by unfold cls; rw [if_neg (by simp [h, h0]), if_neg (by simp [hc]), if_pos ho]
theorem cls_bal {s : Bk} {a : Int} (h : ther s a = true) (h0 : ¬ a = 0) (hc : clsd s a = false) (ho : opb a s.acs = false) (hb : ¬ balT a s.txs = 0) : cls s a = (10, s) := by unfold cls; rw [if_neg (by simp [h, h0]), if_neg (by simp [hc]), if_neg (by simp [ho]), if_pos hb]
theorem cls_ok {s : Bk} {k : Nat} {c : Ac} (h : ther s k = true) (h0 : ¬ (k : Int) = 0) (hc : clsd s k = false) (ho : opb k s.acs = false) (hb : balT k s.txs = 0) (hk : s.acs[k]? = some c) : cls s k = (0, { s with acs := s.acs.set k (c.1, true) }) := by
  unfold cls
  rw [if_neg (by simp only [h, h0]; simp), if_neg (by simp [hc]), if_neg (by simp [ho]), if_neg (by simp [hb])]
  simp [hk]

set_option maxRecDepth 100000 in
set_option maxHeartbeats 2000000 in
theorem ledClose_any (B p : Nat) (d : Dk) (s : Bk) (a : Int) (w : World) (h : LedD w B p d s) :
    Calls Tryz.prog 104 #[.pointer (some ⟨p, 0, none⟩), .int .i64 a] w fun e w' => e = .returned (.int .i64 (cls s a).1) ∧ LedD w' B p d (cls s a).2 ∧ FrT B tP w w' := by
  have Hho := hide (hasOpen_any B p s a w h.led)
  have Hbal : Hid (∀ wx, Led wx B p s → Calls Tryz.prog 141 #[.pointer (some ⟨p, 0, none⟩), .int .i64 a, .int .i64 0, .int .i64 999] wx fun e w' => ∃ c, e = .returned (.agg #[.int .i64 (balT a s.txs), .int .i64 c]) ∧ Below wx.heap.size wx w') := by
    intro wx hx
    refine (alone_any B p s a 0 999 wx hx).mono ?_
    rintro e w1 ⟨rfl, hb⟩
    have hgood : BkGood s := by obtain ⟨_, _, _, h⟩ := h; exact h.good
    refine ⟨(aloneM s a 0 999).2, ?_, hb⟩
    rw [show (aloneM s a 0 999).1 = balT a s.txs from tkT_bal a s.txs (fun t ht => ⟨(hgood.tx t ht).2.2.1, (hgood.tx t ht).2.2.2.1⟩)]
  obtain ⟨va, vt, tv, h⟩ := h
  obtain ⟨g, cap, rfl, hg, hg'⟩ := ownsRow_some h.acs h.good.one
  have c0 := h.blk.cell 0
  have hlp := h.blk.lt
  simp only [List.getElem?_toArray, List.getElem?_cons_zero] at c0
  have hfew := h.good.few
  have H := hide h
  by_cases hin : a ≤ 0 ∨ (s.acs.length : Int) ≤ a
  · rw [cls_none (by by_cases h0 : a = 0; exact .inr h0; exact .inl (ther_no (by omega)))]
    clear h
    by_cases hneg : a ≤ 0
    · go_enter Tryz.func104, Tryz.ntmps104
      go_wp2_with fail
      go_ret
      exact ⟨rfl, ⟨_, _, _, unhide H⟩, FrT.refl _ _ _⟩
    · have hge : (s.acs.length : Int) ≤ a := by omega
      go_enter Tryz.func104, Tryz.ntmps104
      go_wp2_with fail
      go_ret
      exact ⟨rfl, ⟨_, _, _, unhide H⟩, FrT.refl _ _ _⟩
  · obtain ⟨k, rfl⟩ : ∃ k : Nat, a = k := ⟨a.toNat, by omega⟩
    have hk : k < s.acs.length := by omega
    have hk0 : ¬ (k : Int) = 0 := by omega
    obtain ⟨c, hc⟩ := acs_get hk
    have d := ownsRow_cell h.acs (j := k * 2 + 1) (two_get (fun a : Ac => Value.int .i64 a.1) (fun a => .bool a.2) s.acs k c hc).2
    have ht := ther_nat hk
    have hcl := clsd_at hc
    have hle : ¬ (k : Int) ≤ 0 := by omega
    clear h hin
    cases hcc : c.2 with
    | true =>
      rw [hcc] at d hcl
      rw [cls_shut ht hk0 hcl]
      clear ht hcl hc
      go_enter Tryz.func104, Tryz.ntmps104
      go_wp2_with fail
      go_ret
      exact ⟨rfl, ⟨_, _, _, unhide H⟩, FrT.refl _ _ _⟩
    | false =>
      rw [hcc] at d hcl
      cases ho : opb (k : Int) s.acs with
      | true =>
        rw [ho] at Hho
        rw [cls_open ht hk0 hcl ho]
        clear ht hcl hc ho
        go_enter Tryz.func104, Tryz.ntmps104
        go_wp2_with fail
        refine (unhide Hho).mono ?_
        rintro e w1 ⟨rfl, hb1⟩
        have Hb1 := hide hb1
        clear hb1
        go_wp2_with fail
        go_ret
        exact ⟨rfl, ⟨_, _, _, (unhide H).kept (unhide Hb1)⟩, FrT.of_below (unhide Hb1)⟩
      | false =>
        rw [ho] at Hho
        by_cases hbal : balT (k : Int) s.txs = 0
        · have hok := cls_ok ht hk0 hcl ho hbal hc
          have Hgood : Hid (BkGood { s with acs := s.acs.set k (c.1, true) }) := by
            have := BkGood.cls (unhide H).good (k : Int)
            rw [hok] at this
            exact this
          rw [hok]
          rw [hbal] at Hbal
          have Hc := hide hc
          clear ht hcl hc ho hok hbal
          go_enter Tryz.func104, Tryz.ntmps104
          go_wp2_with fail
          refine (unhide Hho).mono ?_
          rintro e w1 ⟨rfl, hb1⟩
          have H1 := hide ((unhide H).kept hb1)
          have Hb1 := hide hb1
          clear hb1
          go_wp2_with fail
          refine (unhide Hbal _ ⟨_, _, _, _, unhide H1⟩).mono ?_
          rintro e w2 ⟨cc, rfl, hb2⟩
          have H2 := hide ((unhide H1).kept hb2)
          have Hb2 := hide ((unhide Hb1).then hb2)
          have c2 := (unhide H2).blk.cell 0
          simp only [List.getElem?_toArray, List.getElem?_cons_zero] at c2
          have z2 := ownsRow_frozen (unhide H2).acs (k * 2 + 1)
          have d2 := ownsRow_cell (unhide H2).acs (j := k * 2 + 1) (two_get (fun a : Ac => Value.int .i64 a.1) (fun a => .bool a.2) s.acs k c (unhide Hc)).2
          have hgl : g < w2.heap.size := by have := (unhide Hb2).size; omega
          have hpl2 : p < w2.heap.size := by have := (unhide Hb2).size; omega
          clear hb2
          go_wp2_with fail
          go_ret
          have hfin := (unhide H2).shut (unhide Hc) (unhide Hgood) (by rw [cnt_shut (unhide Hc)]; omega)
          have hal := (Below.refl _ (w2.setCell ⟨g, k * 2 + 1, none⟩ (.bool true))).alloc (Nat.le_refl _) (.cells #[.int .i64 0, .int .i64 cc] 213)
          exact ⟨rfl, ⟨_, _, _, hfin.1.kept hal⟩, ((FrT.of_below (unhide Hb2)).trans hfin.2).then hal⟩
        · rw [cls_bal ht hk0 hcl ho hbal]
          obtain ⟨b, hb⟩ : ∃ b, balT (k : Int) s.txs = b := ⟨_, rfl⟩
          rw [hb] at Hbal hbal
          have hbe : (b == 0) = false := by simpa using hbal
          clear ht hcl hc ho hb
          go_enter Tryz.func104, Tryz.ntmps104
          go_wp2_with fail
          refine (unhide Hho).mono ?_
          rintro e w1 ⟨rfl, hb1⟩
          have H1 := hide ((unhide H).kept hb1)
          have Hb1 := hide hb1
          clear hb1
          go_wp2_with fail
          refine (unhide Hbal _ ⟨_, _, _, _, unhide H1⟩).mono ?_
          rintro e w2 ⟨cc, rfl, hb2⟩
          have H2 := hide ((unhide H1).kept hb2)
          have Hb2 := hide ((unhide Hb1).then hb2)
          clear hb2
          go_wp2_with fail
          go_ret
          have hal := (Below.refl _ w2).alloc (Nat.le_refl _) (.cells #[.int .i64 b, .int .i64 cc] 213)
          exact ⟨rfl, ⟨_, _, _, (unhide H2).kept hal⟩, (FrT.of_below (unhide Hb2)).then hal⟩

end Go.Proofs.YtdchbenfccofpaaGreatDoor
namespace Go.Proofs.YtdchbenfccofpaaGreatDoor
open Go.RowKit Db

/-- A list of lines can be read at v. -/
def LinesAt (w : World) (v : Value) (ls : List Ln) : Prop :=
  ∃ ao cap, v = .slice ao ls.length cap ∧ (ls = [] ∨ ∃ b off, ao = some ⟨b, off, none⟩ ∧ b < w.heap.size ∧
    ∀ (i : Nat) (l : Ln), ls[i]? = some l → w.cell? ⟨b, off + i * 2, none⟩ = some (.int .i64 l.1) ∧ w.cell? ⟨b, off + i * 2 + 1, none⟩ = some (.int .i64 l.2))
theorem LinesAt.kept {w w' : World} {v : Value} {ls : List Ln} (h : LinesAt w v ls) (hb : Below w.heap.size w w') : LinesAt w' v ls := by
  obtain ⟨ao, cap, rfl, hr⟩ := h
  refine ⟨ao, cap, rfl, ?_⟩
  rcases hr with hr | ⟨b, off, ha, hlt, hc⟩
  · exact .inl hr
  · refine .inr ⟨b, off, ha, Nat.lt_of_lt_of_le hlt hb.size, fun i l hl => ?_⟩
    rw [hb.cell (p := ⟨b, off + i * 2, none⟩) hlt, hb.cell (p := ⟨b, off + i * 2 + 1, none⟩) hlt]
    exact hc i l hl
theorem LinesAt.of_own {w : World} {B : Nat} {v : Value} {ls : List Ln} (h : w.ownsRow B 89 2 v ls.length (cellsL ls)) : LinesAt w v ls := by
  obtain ⟨ao, cap, rfl⟩ := ownsRow_form h
  refine ⟨ao, cap, rfl, ?_⟩
  by_cases hl : ls.length = 0
  · exact .inl (List.length_eq_zero_iff.1 hl)
  · obtain ⟨g, _, e1, hg, hg'⟩ := ownsRow_some h (by omega)
    simp only [Value.slice.injEq, true_and] at e1
    obtain ⟨rfl, rfl⟩ := e1
    refine .inr ⟨g, 0, rfl, hg', fun i l hl => ?_⟩
    have h2 := two_get (fun x : Ln => Value.int .i64 x.1) (fun x => .int .i64 x.2) ls i l hl
    rw [Nat.zero_add]
    exact ⟨ownsRow_cell h h2.1, ownsRow_cell h h2.2⟩
/-- Where a line is. -/
theorem LinesAt.line {w : World} {ao : Option Addr} {n cap : Nat} {ls : List Ln} (h : LinesAt w (.slice ao n cap) ls) {i : Nat} {l : Ln} (hl : ls[i]? = some l) : n = ls.length ∧ ∃ b off, ao = some ⟨b, off, none⟩ ∧ b < w.heap.size ∧
    w.cell? ⟨b, off + i * 2, none⟩ = some (.int .i64 l.1) ∧ w.cell? ⟨b, off + i * 2 + 1, none⟩ = some (.int .i64 l.2) := by
  obtain ⟨ao', cap', e, hr⟩ := h
  simp only [Value.slice.injEq] at e
  obtain ⟨rfl, rfl, rfl⟩ := e
  refine ⟨rfl, ?_⟩
  rcases hr with rfl | ⟨b, off, ha, hlt, hc⟩
  · simp at hl
  · exact ⟨b, off, ha, hlt, hc i l hl⟩
theorem LinesAt.form {w : World} {v : Value} {ls : List Ln} (h : LinesAt w v ls) : ∃ ao cap, v = .slice ao ls.length cap := by
  obtain ⟨ao, cap, rfl, _⟩ := h; exact ⟨ao, cap, rfl⟩

theorem any_step {α : Type} {f : α → Bool} {l : List α} {j : Nat} {c : α} (h : l[j]? = some c) : (l.drop j).any f = (f c || (l.drop (j + 1)).any f) := by
  obtain ⟨hi, rfl⟩ := List.getElem?_eq_some_iff.1 h
  rw [List.drop_eq_getElem_cons hi, List.any_cons]
theorem all_step {α : Type} {f : α → Bool} {l : List α} {j : Nat} {c : α} (h : l[j]? = some c) : (l.drop j).all f = (f c && (l.drop (j + 1)).all f) := by
  obtain ⟨hi, rfl⟩ := List.getElem?_eq_some_iff.1 h
  rw [List.drop_eq_getElem_cons hi, List.all_cons]
theorem sumL_step {l : List Ln} {j : Nat} {c : Ln} (h : l[j]? = some c) : sumL (l.drop j) = c.2 + sumL (l.drop (j + 1)) := by
  obtain ⟨hi, rfl⟩ := List.getElem?_eq_some_iff.1 h
  rw [List.drop_eq_getElem_cons hi]; rfl

set_option maxRecDepth 100000 in
set_option maxHeartbeats 2000000 in
theorem amounts_any (v : Value) (ls : List Ln) (w : World) (h : LinesAt w v ls) (h4 : ls.length ≤ 4) :
    Calls Tryz.prog 186 #[v] w fun e w' => e = .returned (.bool (!ls.any amtB)) ∧ Below w.heap.size w w' := by
  obtain ⟨ao, cap, rfl⟩ := h.form
  have H := hide h
  clear h
  go_enter Tryz.func186, Tryz.ntmps186
  go_wp2_with fail
  go_loopg [7] ls.length (fun m i wr => ∃ j : Nat, j ≤ ls.length ∧ m = ls.length - j ∧ i = .int .i64 j ∧ Hid ((ls.drop j).any amtB = ls.any amtB) ∧ Hid (Below w.heap.size w wr))
  case atStart => exact ⟨0, by omega, rfl, rfl, rfl, Below.refl _ _⟩
  case round =>
    obtain ⟨j, hj, rfl, rfl, Ho, Hb⟩ := hrel
    have hsz := (unhide Hb).size
    by_cases hlt : j < ls.length
    · obtain ⟨⟨la, lm⟩, hl⟩ : ∃ l, ls[j]? = some l := ⟨ls[j], List.getElem?_eq_getElem hlt⟩
      obtain ⟨_, b, off, rfl, hbl, d1, d2⟩ := ((unhide H).kept (unhide Hb)).line hl
      have Hst := hide (any_step (f := amtB) hl)
      simp only at d1 d2 Hst
      clear hl
      by_cases h0 : lm = 0
      · subst h0
        go_wp2_with fail
        go_ret
        exact ⟨retB' (by rw [← unhide Ho, unhide Hst]; simp [amtB]), (unhide Hb).alloc hsz _⟩
      · have hne : (lm == 0) = false := by simpa using h0
        by_cases h1 : lm < -1000000000000
        · go_wp2_with fail
          go_ret
          exact ⟨retB' (by rw [← unhide Ho, unhide Hst]; simp [amtB, h1]), (unhide Hb).alloc hsz _⟩
        · by_cases h2 : 1000000000000 < lm
          · go_wp2_with fail
            go_ret
            exact ⟨retB' (by rw [← unhide Ho, unhide Hst]; simp [amtB, h2]), (unhide Hb).alloc hsz _⟩
          · have hst2 : amtB (la, lm) = false := by unfold amtB; simp [hne]; omega
            go_wp2_with fail
            go_roundg (ls.length - (j + 1))
            case measure => omega
            case rel => exact ⟨j + 1, by omega, rfl, by go_num, by show _ = _; rw [← unhide Ho, unhide Hst, hst2]; simp, (unhide Hb).alloc hsz _⟩
    · obtain rfl : j = ls.length := by omega
      go_wp2_with fail
      go_ret
      exact ⟨retB' (by rw [← unhide Ho, List.drop_length]; rfl), unhide Hb⟩

set_option maxRecDepth 100000 in
set_option maxHeartbeats 2000000 in
theorem total_any (v : Value) (ls : List Ln) (w : World) (h : LinesAt w v ls) (h4 : ls.length ≤ 4) (ha : ∀ l ∈ ls, -1000000000000 ≤ l.2 ∧ l.2 ≤ 1000000000000) :
    Calls Tryz.prog 189 #[v] w fun e w' => e = .returned (.int .i64 (sumL ls)) ∧ Below w.heap.size w w' := by
  obtain ⟨ao, cap, rfl⟩ := h.form
  have H := hide h
  have Ha := hide ha
  clear h ha
  go_enter Tryz.func189, Tryz.ntmps189
  go_wp2_with fail
  go_loopg [3, 8] ls.length (fun m v i wr => ∃ j : Nat, ∃ x : Int, j ≤ ls.length ∧ m = ls.length - j ∧ i = .int .i64 j ∧ v = .int .i64 x ∧ -(1000000000000 * (j : Int)) ≤ x ∧ x ≤ 1000000000000 * (j : Int) ∧ Hid (x + sumL (ls.drop j) = sumL ls) ∧ Hid (Below w.heap.size w wr))
  case atStart => exact ⟨0, 0, by omega, rfl, rfl, rfl, by omega, by omega, by show _ = _; simp, Below.refl _ _⟩
  case round =>
    obtain ⟨j, x, hj, rfl, rfl, rfl, hx0, hx1, Ho, Hb⟩ := hrel
    have hsz := (unhide Hb).size
    by_cases hlt : j < ls.length
    · obtain ⟨⟨la, lm⟩, hl⟩ : ∃ l, ls[j]? = some l := ⟨ls[j], List.getElem?_eq_getElem hlt⟩
      obtain ⟨_, b, off, rfl, hbl, d1, d2⟩ := ((unhide H).kept (unhide Hb)).line hl
      have Hst := hide (sumL_step hl)
      have hb := unhide Ha _ (List.mem_of_getElem? hl)
      simp only at d1 d2 Hst hb
      have hwr : IntKind.i64.wrap (x + lm) = x + lm := by rw [IntKind.wrap_i64]; omega
      clear hl
      go_wp2_with fail
      go_roundg (ls.length - (j + 1))
      case measure => omega
      case rel => exact ⟨j + 1, x + lm, by omega, rfl, by go_num, rfl, by omega, by omega, by show _ = _; have := unhide Ho; rw [unhide Hst] at this; omega, (unhide Hb).alloc hsz _⟩
    · obtain rfl : j = ls.length := by omega
      go_wp2_with fail
      go_ret
      refine ⟨retI' ?_, unhide Hb⟩
      have := unhide Ho
      rw [List.drop_length] at this
      simpa [sumL] using this

set_option maxRecDepth 100000 in
set_option maxHeartbeats 2000000 in
theorem hasAccounts_any (B p : Nat) (s : Bk) (v : Value) (ls : List Ln) (w : World) (hs : Led w B p s) (h : LinesAt w v ls) (h4 : ls.length ≤ 4) :
    Calls Tryz.prog 187 #[.pointer (some ⟨p, 0, none⟩), v] w fun e w' => e = .returned (.bool (ls.all (accB s))) ∧ Below w.heap.size w w' := by
  obtain ⟨va, vt, tv, dk, hs⟩ := hs
  obtain ⟨g, capa, rfl, hg, hg'⟩ := ownsRow_some hs.acs hs.good.one
  have hfew := hs.good.few
  obtain ⟨ao, cap, rfl⟩ := h.form
  have H := hide h
  have HS := hide hs
  clear h hs
  go_enter Tryz.func187, Tryz.ntmps187
  go_wp2_with fail
  go_loopg [9] ls.length (fun m i wr => ∃ j : Nat, j ≤ ls.length ∧ m = ls.length - j ∧ i = .int .i64 j ∧ Hid ((ls.drop j).all (accB s) = ls.all (accB s)) ∧ Hid (Below w.heap.size w wr))
  case atStart => exact ⟨0, by omega, rfl, rfl, rfl, Below.refl _ _⟩
  case round =>
    obtain ⟨j, hj, rfl, rfl, Ho, Hb⟩ := hrel
    have hsz := (unhide Hb).size
    have hblk := (unhide HS).blk.kept (unhide Hb)
    have c0 := hblk.cell 0
    have hlb := hblk.lt
    simp only [List.getElem?_toArray, List.getElem?_cons_zero] at c0
    clear hblk
    by_cases hlt : j < ls.length
    · obtain ⟨⟨la, lm⟩, hl⟩ : ∃ l, ls[j]? = some l := ⟨ls[j], List.getElem?_eq_getElem hlt⟩
      obtain ⟨_, b, off, rfl, hbl, d1, d2⟩ := ((unhide H).kept (unhide Hb)).line hl
      have Hst := hide (all_step (f := accB s) hl)
      simp only at d1 d2 Hst
      clear hl
      by_cases h0 : la ≤ 0
      · have hacc : accB s (la, lm) = false := by unfold accB ther; simp; omega
        go_upto_region 4 with fail
        go_quiet (fail)
        go_wp2_with fail
        go_ret
        exact ⟨retB' (by rw [← unhide Ho, unhide Hst, hacc]; simp), ((unhide Hb).alloc hsz _).drewN _⟩
      · have hd0 : decide (la ≤ 0) = false := by simp; omega
        by_cases h1 : (s.acs.length : Int) ≤ la
        · have hacc : accB s (la, lm) = false := by unfold accB ther; simp; omega
          go_upto_region 4 with fail
          go_quiet (fail)
          go_wp2_with fail
          go_ret
          exact ⟨retB' (by rw [← unhide Ho, unhide Hst, hacc]; simp), ((unhide Hb).alloc hsz _).drewN _⟩
        · have hacc : accB s (la, lm) = true := by unfold accB ther; simp; omega
          have hd1 : decide ((s.acs.length : Int) ≤ la) = false := by simp; omega
          go_upto_region 4 with fail
          go_quiet (fail)
          go_wp2_with fail
          go_roundg (ls.length - (j + 1))
          case measure => omega
          case rel => exact ⟨j + 1, by omega, rfl, by go_num, by show _ = _; rw [← unhide Ho, unhide Hst, hacc]; simp, ((unhide Hb).alloc hsz _).drewN _⟩
    · obtain rfl : j = ls.length := by omega
      go_wp2_with fail
      go_ret
      exact ⟨retB' (by rw [← unhide Ho, List.drop_length]; rfl), unhide Hb⟩

end Go.Proofs.YtdchbenfccofpaaGreatDoor
namespace Go.Proofs.YtdchbenfccofpaaGreatDoor
open Go.RowKit Db

set_option maxRecDepth 100000 in
set_option maxHeartbeats 2000000 in
theorem hasClosed_any (B p : Nat) (s : Bk) (v : Value) (ls : List Ln) (w : World) (hs : Led w B p s) (h : LinesAt w v ls) (h4 : ls.length ≤ 4) (hacc : ls.all (accB s) = true) :
    Calls Tryz.prog 188 #[.pointer (some ⟨p, 0, none⟩), v] w fun e w' => e = .returned (.bool (ls.any fun l => clsd s l.1)) ∧ Below w.heap.size w w' := by
  obtain ⟨va, vt, tv, dk, hs⟩ := hs
  obtain ⟨g, capa, rfl, hg, hg'⟩ := ownsRow_some hs.acs hs.good.one
  have hfew := hs.good.few
  obtain ⟨ao, cap, rfl⟩ := h.form
  have H := hide h
  have HS := hide hs
  have Hacc := hide hacc
  clear h hs hacc
  go_enter Tryz.func188, Tryz.ntmps188
  go_wp2_with fail
  go_loopg [10] ls.length (fun m i wr => ∃ j : Nat, j ≤ ls.length ∧ m = ls.length - j ∧ i = .int .i64 j ∧ Hid (((ls.drop j).any fun l => clsd s l.1) = ls.any fun l => clsd s l.1) ∧ Hid (Below w.heap.size w wr))
  case atStart => exact ⟨0, by omega, rfl, rfl, rfl, Below.refl _ _⟩
  case round =>
    obtain ⟨j, hj, rfl, rfl, Ho, Hb⟩ := hrel
    have hsz := (unhide Hb).size
    have HS1 := hide ((unhide HS).kept (unhide Hb))
    have c0 := (unhide HS1).blk.cell 0
    have hlb := (unhide HS1).blk.lt
    simp only [List.getElem?_toArray, List.getElem?_cons_zero] at c0
    by_cases hlt : j < ls.length
    · obtain ⟨⟨la, lm⟩, hl⟩ : ∃ l, ls[j]? = some l := ⟨ls[j], List.getElem?_eq_getElem hlt⟩
      obtain ⟨_, b, off, rfl, hbl, d1, d2⟩ := ((unhide H).kept (unhide Hb)).line hl
      have Hst := hide (any_step (f := fun l : Ln => clsd s l.1) hl)
      have hla := List.all_eq_true.1 (unhide Hacc) _ (List.mem_of_getElem? hl)
      unfold accB ther at hla
      simp only [Bool.and_eq_true, decide_eq_true_eq] at hla
      obtain ⟨k, rfl⟩ : ∃ k : Nat, la = k := ⟨la.toNat, by omega⟩
      have hk : k < s.acs.length := by omega
      obtain ⟨c, hc⟩ := acs_get hk
      have d3 := ownsRow_cell (unhide HS1).acs (j := k * 2 + 1) (two_get (fun a : Ac => Value.int .i64 a.1) (fun a => .bool a.2) s.acs k c hc).2
      have hcl := clsd_at hc
      have hgl : g < wr.heap.size := by omega
      simp only at d1 d2 Hst
      rw [hcl] at Hst
      clear hl hla hc hcl
      cases hcc : c.2 with
      | true =>
        rw [hcc] at d3 Hst
        go_wp2_with fail
        go_ret
        exact ⟨retB' (by rw [← unhide Ho, unhide Hst]; simp), (unhide Hb).alloc hsz _⟩
      | false =>
        rw [hcc] at d3 Hst
        go_wp2_with fail
        go_roundg (ls.length - (j + 1))
        case measure => omega
        case rel => exact ⟨j + 1, by omega, rfl, by go_num, by show _ = _; rw [← unhide Ho, unhide Hst]; simp, (unhide Hb).alloc hsz _⟩
    · obtain rfl : j = ls.length := by omega
      go_wp2_with fail
      go_ret
      exact ⟨retB' (by rw [← unhide Ho, List.drop_length]; rfl), unhide Hb⟩

theorem lnsE_15 {s : Bk} {ls : List Ln} (h : ls.length < 2 ∨ 4 < ls.length) : lnsE s ls = 15 := by unfold lnsE; rw [if_pos h]
theorem lnsE_16 {s : Bk} {ls : List Ln} (h : ¬ (ls.length < 2 ∨ 4 < ls.length)) (h1 : ls.any amtB = true) : lnsE s ls = 16 := by unfold lnsE; rw [if_neg h, if_pos h1]
theorem lnsE_7 {s : Bk} {ls : List Ln} (h : ¬ (ls.length < 2 ∨ 4 < ls.length)) (h1 : ls.any amtB = false) (h2 : ls.all (accB s) = false) : lnsE s ls = 7 := by unfold lnsE; rw [if_neg h, if_neg (by simp [h1]), if_pos h2]
theorem lnsE_8 {s : Bk} {ls : List Ln} (h : ¬ (ls.length < 2 ∨ 4 < ls.length)) (h1 : ls.any amtB = false) (h2 : ls.all (accB s) = true) (h3 : (ls.any fun l => clsd s l.1) = true) : lnsE s ls = 8 := by unfold lnsE; rw [if_neg h, if_neg (by simp [h1]), if_neg (by simp [h2]), if_pos h3]
theorem lnsE_17 {s : Bk} {ls : List Ln} (h : ¬ (ls.length < 2 ∨ 4 < ls.length)) (h1 : ls.any amtB = false) (h2 : ls.all (accB s) = true) (h3 : (ls.any fun l => clsd s l.1) = false) (h4 : ¬ sumL ls = 0) : lnsE s ls = 17 := by unfold lnsE; rw [if_neg h, if_neg (by simp [h1]), if_neg (by simp [h2]), if_neg (by simp [h3]), if_pos h4]
theorem lnsE_0 {s : Bk} {ls : List Ln} (h : ¬ (ls.length < 2 ∨ 4 < ls.length)) (h1 : ls.any amtB = false) (h2 : ls.all (accB s) = true) (h3 : (ls.any fun l => clsd s l.1) = false) (h4 : sumL ls = 0) : lnsE s ls = 0 := by unfold lnsE; rw [if_neg h, if_neg (by simp [h1]), if_neg (by simp [h2]), if_neg (by simp [h3]), if_neg (by simp [h4])]
theorem amt_ok {ls : List Ln} (h : ls.any amtB = false) : ∀ l ∈ ls, -1000000000000 ≤ l.2 ∧ l.2 ≤ 1000000000000 := by
  intro l hl
  have a : amtB l = false := by simpa using List.any_eq_false.1 h l hl
  unfold amtB at a
  simp only [Bool.or_eq_false_iff, decide_eq_false_iff_not] at a
  omega

set_option maxRecDepth 100000 in
set_option maxHeartbeats 2000000 in
theorem checkLines_any (B p : Nat) (s : Bk) (v : Value) (ls : List Ln) (w : World) (hs : Led w B p s) (h : LinesAt w v ls) :
    Calls Tryz.prog 144 #[.pointer (some ⟨p, 0, none⟩), v] w fun e w' => e = .returned (.int .i64 (lnsE s ls)) ∧ Below w.heap.size w w' := by
  obtain ⟨va, vt, tv, dk, hs⟩ := hs
  have H := hide h
  have HS := hide hs
  obtain ⟨ao, cap, rfl⟩ := h.form
  clear h hs
  by_cases hlen : ls.length < 2 ∨ 4 < ls.length
  · rw [lnsE_15 hlen]
    by_cases h2 : ls.length < 2
    · have hd : decide ((ls.length : Int) < 2) = true := by simp; omega
      go_enter Tryz.func144, Tryz.ntmps144
      go_wp2_with fail
      go_ret
      exact ⟨rfl, Below.refl _ _⟩
    · have hd : decide ((ls.length : Int) < 2) = false := by simp; omega
      have hd2 : decide ((4 : Int) < (ls.length : Int)) = true := by simp; omega
      go_enter Tryz.func144, Tryz.ntmps144
      go_wp2_with fail
      go_ret
      exact ⟨rfl, Below.refl _ _⟩
  · have hd : decide ((ls.length : Int) < 2) = false := by simp; omega
    have hd2 : decide ((4 : Int) < (ls.length : Int)) = false := by simp; omega
    have h4 : ls.length ≤ 4 := by omega
    have Hm := hide (amounts_any _ ls w (unhide H) h4)
    cases ham : ls.any amtB with
    | true =>
      rw [lnsE_16 hlen ham]
      rw [ham] at Hm
      clear ham
      go_enter Tryz.func144, Tryz.ntmps144
      go_wp2_with fail
      refine (unhide Hm).mono ?_
      rintro e w1 ⟨rfl, hb1⟩
      have Hb1 := hide hb1
      clear hb1
      go_wp2_with fail
      go_ret
      exact ⟨rfl, unhide Hb1⟩
    | false =>
      rw [ham] at Hm
      have Ham := hide ham
      have Hc := hide (fun (wx : World) (hb : Below w.heap.size w wx) => hasAccounts_any B p s _ ls wx ⟨_, _, _, _, (unhide HS).kept hb⟩ ((unhide H).kept hb) h4)
      cases hac : ls.all (accB s) with
      | false =>
        rw [lnsE_7 hlen ham hac]
        rw [hac] at Hc
        clear hac ham
        go_enter Tryz.func144, Tryz.ntmps144
        go_wp2_with fail
        refine (unhide Hm).mono ?_
        rintro e w1 ⟨rfl, hb1⟩
        have Hb1 := hide hb1
        clear hb1
        go_wp2_with fail
        refine (unhide Hc _ (unhide Hb1)).mono ?_
        rintro e w2 ⟨rfl, hb2⟩
        have Hb2 := hide ((unhide Hb1).then hb2)
        clear hb2
        go_wp2_with fail
        go_ret
        exact ⟨rfl, unhide Hb2⟩
      | true =>
        rw [hac] at Hc
        have Hac := hide hac
        have Hd := hide (fun (wx : World) (hb : Below w.heap.size w wx) => hasClosed_any B p s _ ls wx ⟨_, _, _, _, (unhide HS).kept hb⟩ ((unhide H).kept hb) h4 (unhide Hac))
        cases hcl : (ls.any fun l => clsd s l.1) with
        | true =>
          rw [lnsE_8 hlen ham hac hcl]
          rw [hcl] at Hd
          clear hac ham hcl
          go_enter Tryz.func144, Tryz.ntmps144
          go_wp2_with fail
          refine (unhide Hm).mono ?_
          rintro e w1 ⟨rfl, hb1⟩
          have Hb1 := hide hb1
          clear hb1
          go_wp2_with fail
          refine (unhide Hc _ (unhide Hb1)).mono ?_
          rintro e w2 ⟨rfl, hb2⟩
          have Hb2 := hide ((unhide Hb1).then hb2)
          clear hb2
          go_wp2_with fail
          refine (unhide Hd _ (unhide Hb2)).mono ?_
          rintro e w3 ⟨rfl, hb3⟩
          have Hb3 := hide ((unhide Hb2).then hb3)
          clear hb3
          go_wp2_with fail
          go_ret
          exact ⟨rfl, unhide Hb3⟩
        | false =>
          rw [hcl] at Hd
          have Ht := hide (fun (wx : World) (hb : Below w.heap.size w wx) => total_any _ ls wx ((unhide H).kept hb) h4 (amt_ok (unhide Ham)))
          by_cases hsum : sumL ls = 0
          · rw [lnsE_0 hlen ham hac hcl hsum]
            rw [hsum] at Ht
            clear hac ham hcl hsum
            go_enter Tryz.func144, Tryz.ntmps144
            go_wp2_with fail
            refine (unhide Hm).mono ?_
            rintro e w1 ⟨rfl, hb1⟩
            have Hb1 := hide hb1
            clear hb1
            go_wp2_with fail
            refine (unhide Hc _ (unhide Hb1)).mono ?_
            rintro e w2 ⟨rfl, hb2⟩
            have Hb2 := hide ((unhide Hb1).then hb2)
            clear hb2
            go_wp2_with fail
            refine (unhide Hd _ (unhide Hb2)).mono ?_
            rintro e w3 ⟨rfl, hb3⟩
            have Hb3 := hide ((unhide Hb2).then hb3)
            clear hb3
            go_wp2_with fail
            refine (unhide Ht _ (unhide Hb3)).mono ?_
            rintro e w4 ⟨rfl, hb4⟩
            have Hb4 := hide ((unhide Hb3).then hb4)
            clear hb4
            go_wp2_with fail
            go_ret
            exact ⟨rfl, unhide Hb4⟩
          · rw [lnsE_17 hlen ham hac hcl hsum]
            obtain ⟨x, hx⟩ : ∃ x, sumL ls = x := ⟨_, rfl⟩
            rw [hx] at Ht hsum
            have hxe : (x == 0) = false := by simpa using hsum
            clear hac ham hcl hx
            go_enter Tryz.func144, Tryz.ntmps144
            go_wp2_with fail
            refine (unhide Hm).mono ?_
            rintro e w1 ⟨rfl, hb1⟩
            have Hb1 := hide hb1
            clear hb1
            go_wp2_with fail
            refine (unhide Hc _ (unhide Hb1)).mono ?_
            rintro e w2 ⟨rfl, hb2⟩
            have Hb2 := hide ((unhide Hb1).then hb2)
            clear hb2
            go_wp2_with fail
            refine (unhide Hd _ (unhide Hb2)).mono ?_
            rintro e w3 ⟨rfl, hb3⟩
            have Hb3 := hide ((unhide Hb2).then hb3)
            clear hb3
            go_wp2_with fail
            refine (unhide Ht _ (unhide Hb3)).mono ?_
            rintro e w4 ⟨rfl, hb4⟩
            have Hb4 := hide ((unhide Hb3).then hb4)
            clear hb4
            go_wp2_with fail
            go_ret
            exact ⟨rfl, unhide Hb4⟩

end Go.Proofs.YtdchbenfccofpaaGreatDoor
namespace Go.Proofs.YtdchbenfccofpaaGreatDoor
open Go.RowKit Db

theorem findT_step {id : Int} {l : List Tn} {j : Nat} {t : Tn} (h : l[j]? = some t) : findT id (l.drop j) = if t.1 == id then some t else findT id (l.drop (j + 1)) := by
  obtain ⟨hi, rfl⟩ := List.getElem?_eq_some_iff.1 h
  rw [List.drop_eq_getElem_cons hi]; rfl

set_option maxRecDepth 100000 in
set_option maxHeartbeats 2000000 in
theorem find_any (B p : Nat) (s : Bk) (id : Int) (va vt : Value) (tv : List (Tn × Value)) (dk : Dk) (w : World) (h : LedAt w B p va vt tv dk s) :
    Calls Tryz.prog 142 #[.pointer (some ⟨p, 0, none⟩), .int .i64 id] w fun e w' => ((∃ t v, findT id s.txs = some t ∧ (t, v) ∈ tv ∧ e = .returned (.tuple #[.agg #[.int .i64 t.1, .int .i64 t.2.1, v], .bool true])) ∨
      (findT id s.txs = none ∧ e = .returned (.tuple #[.agg #[.int .i64 0, .int .i64 0, .slice none 0 0], .bool false]))) ∧ Below w.heap.size w w' := by
  obtain ⟨ao, cap, rfl⟩ := ownsRow_form h.txs.own
  have c1 := h.blk.cell 1
  have hlp := h.blk.lt
  simp only [List.getElem?_toArray, List.getElem?_cons_zero, List.getElem?_cons_succ] at c1
  have hlen : tv.length ≤ 64 := by have := h.good.posts; rw [← h.jr, List.length_map] at this; exact this
  have Hjr := hide h.jr
  have H := hide h
  clear h
  go_enter Tryz.func142, Tryz.ntmps142
  go_wp2_with fail
  obtain ⟨W, hW⟩ : ∃ W, w.alloc (.cells #[.int .i64 0, .int .i64 0, .slice none 0 0] 148) = W := ⟨_, rfl⟩
  rw [hW]
  have hWs : W.heap.size = w.heap.size + 1 := by rw [← hW]; simp
  have HB : Hid (Blk W w.heap.size #[.int .i64 0, .int .i64 0, .slice none 0 0] 148) := by rw [← hW]; exact Blk.new _ _ _
  have Hw : Hid (Below w.heap.size w W) := by rw [← hW]; exact (Below.refl _ _).alloc (Nat.le_refl _) _
  have H1 := hide ((unhide H).kept (unhide Hw))
  clear hW H
  go_loopg [13] tv.length (fun m i wr => ∃ j : Nat, j ≤ tv.length ∧ m = tv.length - j ∧ i = .int .i64 j ∧ Hid (findT id (s.txs.drop j) = findT id s.txs) ∧ Hid (Below W.heap.size W wr))
  case atStart => exact ⟨0, by omega, rfl, rfl, rfl, Below.refl _ _⟩
  case round =>
    obtain ⟨j, hj, rfl, rfl, Ho, Hb⟩ := hrel
    have hsz := (unhide Hb).size
    have HB1 := hide ((unhide HB).kept (unhide Hb))
    have r0 := (unhide HB1).cell 0
    have r1 := (unhide HB1).cell 1
    have r2 := (unhide HB1).cell 2
    have y0 := (unhide HB1).frozen 0
    have y1 := (unhide HB1).frozen 1
    have y2 := (unhide HB1).frozen 2
    have ly := (unhide HB1).lt
    simp only [List.getElem?_toArray, List.getElem?_cons_zero, List.getElem?_cons_succ] at r0 r1 r2
    by_cases hlt : j < tv.length
    · obtain ⟨⟨t, v⟩, ht⟩ : ∃ t, tv[j]? = some t := ⟨tv[j], List.getElem?_eq_getElem hlt⟩
      obtain ⟨g, _, e1, hg, hg'⟩ := ownsRow_some (unhide H1).txs.own (by omega)
      simp only [Value.slice.injEq, true_and] at e1
      obtain ⟨rfl, rfl⟩ := e1
      have h3 := three_get (fun x : Tn × Value => Value.int .i64 x.1.1) (fun x => .int .i64 x.1.2.1) (fun x => x.2) tv j (t, v) ht
      have hro := ownsRow_below (unhide H1).txs.own (unhide Hb)
      have d0 := ownsRow_cell hro (j := j * 3) h3.1
      have d1 := ownsRow_cell hro (j := j * 3 + 1) h3.2.1
      have d2 := ownsRow_cell hro (j := j * 3 + 2) h3.2.2
      have hmem := List.mem_of_getElem? ht
      have hl := (unhide H1).txs.lns _ hmem
      have hst : s.txs[j]? = some t := by rw [← unhide Hjr, List.getElem?_map, ht]; rfl
      have Hst := hide (findT_step (id := id) hst)
      have Hmem := hide hmem
      obtain ⟨ti, td, ls⟩ := t
      simp only at d0 d1 d2 hl Hst Hmem
      obtain ⟨aol, capl, rfl⟩ := ownsRow_form hl
      clear h3 hro hmem hl hst ht
      by_cases hid : ti = id
      · subst hid
        go_wp2_with fail
        refine bodyPost_ret (v := .tuple #[.agg #[.int .i64 ti, .int .i64 td, .slice aol ls.length capl], .bool true]) (by simp [results, Tryz.results142, go_sem, r0, r1, r2, ly]) rfl ⟨.inl ⟨(ti, td, ls), _, by rw [← unhide Ho, unhide Hst]; simp, unhide Hmem, rfl⟩, ?_⟩
        have hb0 := (unhide Hw).then' (by omega) (unhide Hb)
        exact (((hb0.setCell (by simp) _).setCell (by simp) _).setCell (by simp) _).alloc (by simp [World.setCell]; omega) _
      · have hne : (ti == id) = false := by simpa using hid
        go_wp2_with fail
        go_roundg (tv.length - (j + 1))
        case measure => omega
        case rel => exact ⟨j + 1, by omega, rfl, by go_num, by show _ = _; rw [← unhide Ho, unhide Hst, hne]; simp, (unhide Hb).alloc hsz _⟩
    · obtain rfl : j = tv.length := by omega
      go_wp2_with fail
      refine bodyPost_ret (v := .tuple #[.agg #[.int .i64 0, .int .i64 0, .slice none 0 0], .bool false]) (by simp [results, Tryz.results142, go_sem, r0, r1, r2]) rfl ⟨.inr ⟨?_, rfl⟩, ?_⟩
      · rw [← unhide Ho, List.drop_of_length_le (by rw [← unhide Hjr, List.length_map]; exact Nat.le_refl _)]; rfl
      · have hb0 := (unhide Hw).then' (by omega) (unhide Hb)
        exact ((hb0.setCell (by simp) _).setCell (by simp) _).setCell (by simp) _

/-- The answer to what is there already. -/
def repE (td day : Int) (ls ls' : List Ln) : Int := if td = day ∧ ls = ls' then 0 else 13
theorem repE_yes {td day : Int} {ls ls' : List Ln} (h : td = day ∧ ls = ls') : repE td day ls ls' = 0 := if_pos h
theorem repE_no {td day : Int} {ls ls' : List Ln} (h : ¬ (td = day ∧ ls = ls')) : repE td day ls ls' = 13 := if_neg h
theorem take_more {α : Type} {a b : List α} {j : Nat} {x : α} (h : a.take j = b.take j) (ha : a[j]? = some x) (hb : b[j]? = some x) : a.take (j + 1) = b.take (j + 1) := by
  rw [List.take_add_one, List.take_add_one, h, ha, hb]

set_option maxRecDepth 100000 in
set_option maxHeartbeats 2000000 in
theorem repeated_any (ti td day : Int) (ls ls' : List Ln) (v v' : Value) (w : World) (h : LinesAt w v ls) (h' : LinesAt w v' ls') (h4 : ls.length ≤ 4) :
    Calls Tryz.prog 143 #[.agg #[.int .i64 ti, .int .i64 td, v], .int .i64 day, v'] w fun e w' => e = .returned (.int .i64 (repE td day ls ls')) ∧ Below w.heap.size w w' := by
  obtain ⟨ao, cap, rfl⟩ := h.form
  obtain ⟨ao', cap', rfl⟩ := h'.form
  have H := hide h
  have H' := hide h'
  clear h h'
  by_cases hday : td = day
  · subst hday
    by_cases hlen : ls.length = ls'.length
    · have he : ((ls.length : Int) != (ls'.length : Int)) = false := by simp; omega
      have Hlen := hide hlen
      have h4' : ls'.length ≤ 4 := by omega
      clear hlen
      go_enter Tryz.func143, Tryz.ntmps143
      go_wp2_with fail
      obtain ⟨W, hW⟩ : ∃ W, w.alloc (.cells #[.int .i64 ti, .int .i64 td, .slice ao ls.length cap] 148) = W := ⟨_, rfl⟩
      rw [hW]
      have hWs : W.heap.size = w.heap.size + 1 := by rw [← hW]; simp
      have Hw : Hid (Below w.heap.size w W) := by rw [← hW]; exact (Below.refl _ _).alloc (Nat.le_refl _) _
      clear hW
      go_loopg [24] ls.length (fun m i wr => ∃ j : Nat, j ≤ ls.length ∧ m = ls.length - j ∧ i = .int .i64 j ∧ Hid (ls.take j = ls'.take j) ∧ Hid (Below W.heap.size W wr))
      case atStart => exact ⟨0, by omega, rfl, rfl, rfl, Below.refl _ _⟩
      case round =>
        obtain ⟨j, hj, rfl, rfl, Ho, Hb⟩ := hrel
        have hsz := (unhide Hb).size
        have HbW := hide ((unhide Hw).then' (by omega) (unhide Hb))
        by_cases hlt : j < ls.length
        · obtain ⟨⟨la, lm⟩, hl⟩ : ∃ l, ls[j]? = some l := ⟨ls[j], List.getElem?_eq_getElem hlt⟩
          obtain ⟨⟨ra, rm⟩, hr⟩ : ∃ l, ls'[j]? = some l := ⟨ls'[j]'(by rw [← unhide Hlen]; exact hlt), List.getElem?_eq_getElem _⟩
          obtain ⟨_, b, off, rfl, hbl, d1, d2⟩ := ((unhide H).kept (unhide HbW)).line hl
          obtain ⟨_, b', off', rfl, hbl', f1, f2⟩ := ((unhide H').kept (unhide HbW)).line hr
          have hge : decide (ls'.length ≤ j) = false := by have := unhide Hlen; simp; omega
          have hlt' : (j : Int) < (ls'.length : Int) := by have := unhide Hlen; omega
          have Hl := hide hl
          have Hr := hide hr
          simp only at d1 d2 f1 f2
          clear hl hr
          by_cases hsame : ra = la ∧ rm = lm
          · obtain ⟨rfl, rfl⟩ := hsame
            go_upto_region 6 with fail
            go_quiet (fail)
            go_wp2_with fail
            go_roundg (ls.length - (j + 1))
            case measure => omega
            case rel => exact ⟨j + 1, by omega, rfl, by go_num, take_more (unhide Ho) (unhide Hl) (unhide Hr), ((unhide Hb).alloc hsz _).drewN _⟩
          · have Hno : Hid (13 = repE td td ls ls') := by
              refine (repE_no ?_).symm
              rintro ⟨_, e⟩
              have h1 := unhide Hl
              have h2 := unhide Hr
              rw [e, h2] at h1
              simp only [Option.some.injEq, Prod.mk.injEq] at h1
              exact hsame h1
            by_cases hra : ra = la
            · subst hra
              have hrm : (rm == lm) = false := by simpa using hsame
              have hrm2 : ¬ rm = lm := by simpa using hrm
              clear hsame
              go_upto_region 6 with fail
              go_quiet (fail)
              go_wp2_with fail
              go_ret
              exact ⟨retI' (unhide Hno), ((unhide HbW).alloc (by omega) _).drewN _⟩
            · have hrm : (ra == la) = false := by simpa using hra
              clear hsame
              go_upto_region 6 with fail
              go_quiet (fail)
              go_wp2_with fail
              go_ret
              exact ⟨retI' (unhide Hno), ((unhide HbW).alloc (by omega) _).drewN _⟩
        · obtain rfl : j = ls.length := by omega
          go_wp2_with fail
          go_ret
          refine ⟨retI' ?_, unhide HbW⟩
          have h1 := unhide Ho
          rw [List.take_length, unhide Hlen, List.take_length] at h1
          exact (repE_yes ⟨rfl, h1⟩).symm
    · have he : ((ls.length : Int) == (ls'.length : Int)) = false := by simp; omega
      go_enter Tryz.func143, Tryz.ntmps143
      go_wp2_with fail
      go_ret
      exact ⟨retI' (repE_no (by rintro ⟨_, e⟩; exact hlen (by rw [e]))).symm, (Below.refl _ _).alloc (Nat.le_refl _) _⟩
  · have he : (td == day) = false := by simpa using hday
    go_enter Tryz.func143, Tryz.ntmps143
    go_wp2_with fail
    go_ret
    exact ⟨retI' (repE_no (by rintro ⟨e, _⟩; exact hday e)).symm, (Below.refl _ _).alloc (Nat.le_refl _) _⟩

end Go.Proofs.YtdchbenfccofpaaGreatDoor
