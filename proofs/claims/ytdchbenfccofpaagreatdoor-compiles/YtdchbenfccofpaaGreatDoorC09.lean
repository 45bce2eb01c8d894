/- Show: the plain form, by a pile of pieces; digits without noughts ahead. Walks of Show: numerals, signs, brackets. Reports: the document's within and taken. Walks of the document's answer: value, bare, split. Walks of the document's answer: binary, final, cut. Walks of the document's answer: the spots, case by case (laid by genC.py). Walks of the document's answer: reaches, joined, kind. -/
import Derived.Test.YtdchbenfccofpaaGreatDoorC08
import Derived.Test.YtdchbenfccofpaaGreatDoorC03
import Derived.Lib.ItoaNum
import Derived.Lib.ItoaMem
import Derived.Test.YtdchbenfccofpaaGreatDoorC01
import Derived.Test.YtdchbenfccofpaaGreatDoorC04
import Derived.Lib.AppendIntMem
import Derived.Laws.IdiomStrings
import Derived.Deep.LoopGhost
import Derived.Deep.Draws
import Derived.Test.YtdchbenfccofpaaGreatDoorC02
namespace Db
open Go

/-- Digits without a 0 ahead of another digit. -/
def trm : List UInt8 → List UInt8
  | [] => []
  | [c] => [c]
  | c :: d :: r => if c.toNat = 48 then trm (d :: r) else c :: d :: r
theorem trm_zeros (z : List UInt8) (hz : ∀ c ∈ z, c.toNat = 48) (c : UInt8) : trm (z ++ [c]) = [c] := by
  induction z with
  | nil => rfl
  | cons x t ih =>
    have hx := hz x (by simp)
    have ih := ih (fun y hy => hz y (by simp [hy]))
    cases t with
    | nil => simp [trm, hx]
    | cons y r => simpa [trm, hx] using ih
theorem trm_snoc (ds : List UInt8) (h : ∃ x ∈ ds, ¬ x.toNat = 48) (c : UInt8) : trm (ds ++ [c]) = trm ds ++ [c] := by
  induction ds with
  | nil => obtain ⟨x, hx, _⟩ := h; cases hx
  | cons x t ih =>
    by_cases hx : x.toNat = 48
    · have h' : ∃ y ∈ t, ¬ y.toNat = 48 := by
        obtain ⟨y, hy, hn⟩ := h
        rw [List.mem_cons] at hy
        rcases hy with rfl | hy
        · exact absurd hx hn
        · exact ⟨y, hy, hn⟩
      have ih := ih h'
      cases t with
      | nil => obtain ⟨y, hy, _⟩ := h'; cases hy
      | cons y r => simpa [trm, hx] using ih
    · cases t with
      | nil => simp [trm, hx]
      | cons y r => simp [trm, hx]
theorem valGo_snoc' (l : List UInt8) (c : UInt8) : ∀ n, valGo n (l ++ [c]) = 10 * valGo n l + ((c.toNat : Int) - 48) := by
  induction l with
  | nil => intro n; rfl
  | cons x t ih => intro n; exact ih _
theorem val_zero (z : List UInt8) (hd : ∀ c ∈ z, digB c.toNat = true) (h : val z = 0) : ∀ c ∈ z, c.toNat = 48 := by
  have key : ∀ (z : List UInt8) (n : Int), 0 ≤ n → (∀ c ∈ z, digB c.toNat = true) → valGo n z = 0 → n = 0 ∧ ∀ c ∈ z, c.toNat = 48 := by
    intro z
    induction z with
    | nil => intro n _ _ h; exact ⟨h, by simp⟩
    | cons x t ih =>
      intro n hn hd h
      have hx := hd x (by simp)
      simp [digB] at hx
      have := ih (10 * n + ((x.toNat : Int) - 48)) (by omega) (fun c hc => hd c (by simp [hc])) h
      refine ⟨by omega, ?_⟩
      intro c hc
      rw [List.mem_cons] at hc
      rcases hc with rfl | hc
      · omega
      · exact this.2 c hc
  exact (key z 0 (by omega) hd h).2
theorem zero_val (z : List UInt8) (hz : ∀ c ∈ z, c.toNat = 48) : val z = 0 := by
  have : ∀ (z : List UInt8), (∀ c ∈ z, c.toNat = 48) → valGo 0 z = 0 := by
    intro z
    induction z with
    | nil => intro _; rfl
    | cons x t ih =>
      intro h
      have hx := h x (by simp)
      show valGo (10 * 0 + ((x.toNat : Int) - 48)) t = 0
      rw [hx]
      exact ih (fun c hc => h c (by simp [hc]))
  exact this z hz
theorem u8_of {c : UInt8} {n : Nat} (h : c.toNat = n) : UInt8.ofNat n = c := by rw [← h]; simp
/-- Digits without noughts ahead are those of their value. -/
theorem trm_dec (ds : List UInt8) (hn : ds ≠ []) (hd : ∀ c ∈ ds, digB c.toNat = true) : trm ds = Lib.decDigits (val ds).toNat := by
  have key : ∀ (r : List UInt8), (∀ c ∈ r, digB c.toNat = true) → r ≠ [] → trm r.reverse = Lib.decDigits (val r.reverse).toNat := by
    intro r
    induction r with
    | nil => intro _ h; exact absurd rfl h
    | cons c t ih =>
      intro hd _
      have hc := hd c (by simp)
      simp [digB] at hc
      have hdt : ∀ x ∈ t.reverse, digB x.toNat = true := fun x hx => hd x (by simp at hx; simp [hx])
      have hv : val (t.reverse ++ [c]) = 10 * val t.reverse + ((c.toNat : Int) - 48) := valGo_snoc' t.reverse c 0
      have hp := val_pos t.reverse hdt
      rw [List.reverse_cons]
      by_cases h0 : val t.reverse = 0
      · rw [trm_zeros _ (val_zero _ hdt h0), hv, h0, Lib.decDigits_one (by omega)]
        rw [u8_of (c := c) (by omega)]
      · have hex : ∃ x ∈ t.reverse, ¬ x.toNat = 48 := by
          apply Classical.byContradiction
          intro hne
          refine h0 (zero_val _ (fun x hx => ?_))
          apply Classical.byContradiction
          intro hx48
          exact hne ⟨x, hx, hx48⟩
        have htn : t ≠ [] := by intro e; subst e; obtain ⟨x, hx, _⟩ := hex; cases hx
        rw [trm_snoc _ hex, ih (fun x hx => hd x (by simp [hx])) htn, hv]
        have e1 : (10 * val t.reverse + ((c.toNat : Int) - 48)).toNat = 10 * (val t.reverse).toNat + (c.toNat - 48) := by omega
        rw [e1]
        conv => rhs; rw [Lib.decDigits]
        rw [dif_neg (by omega)]
        have e2 : (10 * (val t.reverse).toNat + (c.toNat - 48)) / 10 = (val t.reverse).toNat := by omega
        have e3 : (10 * (val t.reverse).toNat + (c.toNat - 48)) % 10 = c.toNat - 48 := by omega
        rw [e2, e3, u8_of (c := c) (by omega)]
  have := key ds.reverse (fun c hc => hd c (by simpa using hc)) (by simpa using hn)
  simpa using this

/-- A sign as a byte. -/
def u8 (s : Int) : UInt8 := UInt8.ofNat s.toNat
theorem u8_toNat (c : UInt8) : u8 (c.toNat : Int) = c := by simp [u8]
/-- A piece: its text, how firmly it holds. -/
abbrev Pc := List UInt8 × Nat
def brk (p : Pc) (least : Nat) : List UInt8 := if p.2 < least then 40 :: (p.1 ++ [41]) else p.1
def rkS (o : Int) : Nat := if o == 42 || o == 47 then 2 else 1
def wordP (p : Pt) : List UInt8 := if p.1 == 48 then Lib.itoa p.2 else u8 p.1 :: Lib.itoa p.2
def sEval : List Pt → List Pc → List Pc
  | [], st => st
  | p :: r, st => if opdB p.1 then sEval r ((wordP p, 3) :: st) else if p.1 == 126 then
      match st with
      | x :: t => sEval r ((45 :: brk x 3, 3) :: t)
      | [] => []
    else match st with
      | y :: x :: t => sEval r ((brk x (rkS p.1) ++ u8 p.1 :: brk y (rkS p.1 + 1), rkS p.1) :: t)
      | _ => st
def ShowR (ps : List Pt) (x : Pc) : Prop := ∀ q st, sEval (ps ++ q) st = sEval q (x :: st)
theorem ShowR.uniq {ps : List Pt} {x y : Pc} (h : ShowR ps x) (k : ShowR ps y) : x = y := by
  have h1 := h [] []
  have h2 := k [] []
  rw [h1] at h2
  simpa [sEval] using h2
theorem showR_leaf {p : Pt} (h : opdB p.1 = true) : ShowR [p] (wordP p, 3) := fun q st => by simp [sEval, h]
theorem showR_neg {ps : List Pt} {x : Pc} (h : ShowR ps x) : ShowR (ps ++ [(126, 0)]) (45 :: brk x 3, 3) := fun q st => by
  rw [List.append_assoc, h]; simp [sEval, opdB, selB, oldB]
theorem showR_bin {p q : List Pt} {x y : Pc} {o : Int} (ho : opB o = true) (hp : ShowR p x) (hq : ShowR q y) : ShowR (p ++ q ++ [(o, 0)]) (brk x (rkS o) ++ u8 o :: brk y (rkS o + 1), rkS o) := fun r st => by
  rw [List.append_assoc, List.append_assoc, hp, hq]
  have := opd_op ho
  simp [sEval, this.1, this.2]
/-- How firmly the operation holds that is worked out last. -/
def rkO (o : Int) : Nat := if o == 43 || o == 45 then 1 else if o == 42 || o == 47 then 2 else 3
theorem rkO_op {o : Int} (h : opB o = true) : rkO o = rkS o := by
  simp [opB] at h; rcases h with ((rfl | rfl) | rfl) | rfl <;> rfl
theorem wf_show {n : Nat} : ∀ {e : List UInt8} {ps : List Pt}, Wf n e ps → ∃ x, ShowR ps x := by
  induction n with
  | zero => intro e ps h; exact absurd h (by simp [Wf])
  | succ n ih =>
    intro e ps h
    rcases h with ⟨_, h⟩ | ⟨_, h2⟩ | ⟨_, p, h2, rfl⟩ | ⟨h1, p, r, h2, h3, rfl⟩
    · obtain ⟨p, rfl, hp⟩ := opnd_opd h
      exact ⟨_, showR_leaf hp⟩
    · exact ih h2
    · obtain ⟨x, hx⟩ := ih h2
      exact ⟨_, showR_neg hx⟩
    · obtain ⟨x, hx⟩ := ih h2
      obtain ⟨y, hy⟩ := ih h3
      exact ⟨_, showR_bin h1 hx hy⟩
/-- An operand in its plain form. -/
theorem opnd_word {e : List UInt8} {p : Pt} (h : Opnd e [p]) : wordP p = (if digB (hd e) then trm e else e.take 1 ++ trm (e.drop 1)) ∧ 1 ≤ e.length := by
  rcases h with ⟨h1, _, hd1, he⟩ | ⟨c, ds, rfl, h1, hd1, hs, he⟩
  · simp at he
    subst he
    have hn : e ≠ [] := by intro e0; subst e0; simp at h1
    refine ⟨?_, h1⟩
    have hh : digB (hd e) = true := by
      cases e with
      | nil => exact absurd rfl hn
      | cons c r => exact hd1 c (by simp)
    have hp := val_pos e hd1
    rw [hh, if_pos rfl, trm_dec e hn hd1]
    unfold wordP
    show Lib.itoa (val e) = _
    rw [Lib.itoa, if_neg (by omega)]
  · simp at he
    subst he
    refine ⟨?_, by simp⟩
    have hcd : digB (c.toNat : Int) = false := by
      rcases hs with ⟨hs, _⟩ | ⟨hs, _⟩
      · exact (sel_c hs).2.2.2
      · exact (old_c hs).2.2.2.1
    have hn : ds ≠ [] := by intro e0; subst e0; simp at h1
    have hp := val_pos ds hd1
    have h48 : ((c.toNat : Int) == 48) = false := by
      rw [beq_eq_false_iff_ne]; intro e0; rw [e0] at hcd; cases hcd
    unfold wordP
    simp only [hd, hcd, h48]
    simp only [Bool.false_eq_true, if_false]
    rw [Lib.itoa, if_neg (by omega), u8_toNat, List.drop_one, List.tail_cons, trm_dec ds hn hd1]
    simp

end Db
namespace Go.Proofs.YtdchbenfccofpaaGreatDoor
open Go.RowKit Db

set_option maxRecDepth 100000 in
set_option maxHeartbeats 1000000 in
theorem signText_any (s : UInt8) (w : World) :
    Calls Tryz.prog 190 #[.int .u8 (s.toNat : Int)] w fun e w' => ∃ u : ByteArray, e = .returned (.string u) ∧ L u = [s] ∧ Below w.heap.size w w' := by
  have hcv : (convert 187 9 (.slice (some ⟨w.heap.size, 0, none⟩) 1 1)).run Tryz.prog (w.alloc (.cells #[.int .u8 (s.toNat : Int)] 5)) = .ok (.string ⟨#[s]⟩) (w.alloc (.cells #[.int .u8 (s.toNat : Int)] 5)) := by
    have := run_convert_bytes_back (P := Tryz.prog) (w.alloc (.cells #[.int .u8 (s.toNat : Int)] 5)) 187 9 5 ⟨w.heap.size, 0, none⟩ 1 [s] Tryz.underlying187 Tryz.underlying5 Tryz.underlying9 (fun j hj => by
      have h0 : j = 0 := by simpa using hj
      subst h0
      exact cell_one_new w _ _ 0 _ rfl)
    exact this
  go_enter Tryz.func190, Tryz.ntmps190
  go_wp2_with fail
  go_ret
  exact ⟨⟨#[s]⟩, rfl, rfl, (Below.refl _ _).alloc (Nat.le_refl _) _⟩

set_option maxHeartbeats 1000000 in
theorem bracketed_any (x : ByteArray) (r : Nat) (k : Int) (w : World) (hx : x.size ≤ 1000000) :
    Calls Tryz.prog 191 #[.agg #[.string x, .int .i64 (r : Int)], .int .i64 k] w fun e w' => ∃ u : ByteArray, e = .returned (.string u) ∧ L u = brk (L x, r) k.toNat ∧ Below w.heap.size w w' := by
  by_cases h : (r : Int) < k
  · have Hb : Hid (brk (L x, r) k.toNat = 40 :: (L x ++ [41])) := by show _ = _; unfold brk; rw [if_pos (by simp; omega)]
    go_enter Tryz.func191, Tryz.ntmps191
    go_wp2_with fail
    go_ret
    refine ⟨_, rfl, ?_, (Below.refl _ _).alloc (Nat.le_refl _) _⟩
    rw [unhide Hb]; simp [L]
  · have Hb : Hid (brk (L x, r) k.toNat = L x) := by show _ = _; unfold brk; rw [if_neg (by simp; omega)]
    go_enter Tryz.func191, Tryz.ntmps191
    go_wp2_with fail
    go_ret
    exact ⟨x, rfl, (unhide Hb).symm, (Below.refl _ _).alloc (Nat.le_refl _) _⟩

end Go.Proofs.YtdchbenfccofpaaGreatDoor
namespace Go.Proofs.YtdchbenfccofpaaGreatDoor
open Go.RowKit Db

set_option maxRecDepth 100000 in
set_option maxHeartbeats 2000000 in
theorem within_any (B p : Nat) (s : Bk) (a n : Int) (w : World) (h : Rfd w B p s) (ha : a < s.acs.length) :
    Calls Tryz.prog 195 #[.pointer (some ⟨p, 0, none⟩), .int .i64 a, .int .i64 n] w fun e w' => e = .returned (.bool (wth s.acs n 16 a)) ∧ w' = w := by
  obtain ⟨vp, vc, vt, tv, h⟩ := h
  obtain ⟨g, cap, rfl, hg, hg'⟩ := ownsRow_some h.par h.good.one
  have c0 := h.blk.cell 0
  simp only [List.getElem?_toArray, List.getElem?_cons_zero] at c0
  have hfew := h.good.few
  have H := hide h
  clear h
  go_enter Tryz.func195, Tryz.ntmps195
  go_wp2_with fail
  go_loopg [1, 7] 16 (fun m v i wr => ∃ j : Nat, ∃ x : Int, j ≤ 16 ∧ m = 16 - j ∧ i = .int .i64 j ∧ v = .int .i64 x ∧ x < s.acs.length ∧ Hid (wth s.acs n (16 - j) x = wth s.acs n 16 a) ∧ wr = w)
  case atStart => exact ⟨0, a, by omega, rfl, rfl, rfl, ha, rfl, rfl⟩
  case round =>
    obtain ⟨j, x, hj, rfl, rfl, rfl, hx, Ho, rfl⟩ := hrel
    by_cases hlt : j < 16
    · obtain ⟨f, hf⟩ : ∃ f, 16 - j = f + 1 := ⟨15 - j, by omega⟩
      have hw := unhide Ho
      rw [hf, wth_at] at hw
      by_cases h0 : x < 0
      · have hng : ¬ 0 ≤ x := by omega
        rw [if_pos h0] at hw
        have Hw := hide hw
        clear hw
        go_wp2_with fail
        go_ret
        exact ⟨retB' (unhide Hw), rfl⟩
      · rw [if_neg h0] at hw
        have h0' : 0 ≤ x := by omega
        by_cases hn : x = n
        · subst hn
          rw [if_pos (by simp)] at hw
          have Hw := hide hw
          clear hw
          go_wp2_with fail
          go_ret
          exact ⟨retB' (unhide Hw), rfl⟩
        · have hne : (x == n) = false := by simpa using hn
          rw [hne] at hw
          simp only [Bool.false_eq_true, if_false] at hw
          obtain ⟨k, rfl⟩ : ∃ k : Nat, x = k := ⟨x.toNat, by omega⟩
          have hk : k < s.acs.length := by omega
          obtain ⟨c, hc⟩ := acs_get hk
          rw [Int.toNat_natCast, List.getD_eq_getElem?_getD, hc, Option.getD_some] at hw
          have hord := (unhide H).good.ord _ _ hc
          have d := ownsRow_cell (unhide H).par (j := k) (u := .int .i64 c.1) (by rw [List.getElem?_map, hc]; rfl)
          have Hw := hide hw
          obtain ⟨c1, c2⟩ := c
          simp only at d hord Hw
          clear hw hc
          go_wp2_with fail
          go_roundg (16 - (j + 1))
          case measure => omega
          case rel => exact ⟨j + 1, c1, by omega, rfl, by go_num, rfl, by omega, by show _ = _; rw [show 16 - (j + 1) = f by omega]; exact unhide Hw, rfl⟩
    · obtain rfl : j = 16 := by omega
      have Hw : Hid (false = wth s.acs n 16 a) := (unhide Ho)
      clear Ho
      go_wp2_with fail
      go_ret
      exact ⟨retB' (unhide Hw), rfl⟩

set_option maxRecDepth 100000 in
set_option maxHeartbeats 8000000 in
theorem taken_any (B p : Nat) (s : Bk) (sel n a b : Int) (w : World) (h : Rfd w B p s) :
    Calls Tryz.prog 165 #[.pointer (some ⟨p, 0, none⟩), .int .u8 sel, .int .i64 n, .int .i64 a, .int .i64 b] w fun e w' => e = .returned (.tuple #[.int .i64 (tkT (inA s sel n) a b s.txs).1, .int .i64 (tkT (inA s sel n) a b s.txs).2]) ∧ Below w.heap.size w w' := by
  have Hwi := hide (fun (wx : World) (x : Int) (hx : x < s.acs.length) (h : Rfd wx B p s) => within_any B p s x n wx h hx)
  obtain ⟨vp, vc, vt, tv, h⟩ := h
  obtain ⟨ao, cap, rfl⟩ := ownsRow_form h.txs.own
  have c2 := h.blk.cell 2
  simp only [List.getElem?_toArray, List.getElem?_cons_zero, List.getElem?_cons_succ] at c2
  have hlen : tv.length ≤ 64 := by have := h.good.posts; rw [← h.jr, List.length_map] at this; exact this
  have Hjr := hide h.jr
  obtain ⟨q, hq⟩ : ∃ q, inA s sel n = q := ⟨_, rfl⟩
  have Hq := hide hq
  rw [hq]
  have H := hide h
  clear h hq
  go_enter Tryz.func165, Tryz.ntmps165
  go_wp2_with fail
  go_loopg [12, 13, 14] tv.length (fun m v u i wr => ∃ j : Nat, ∃ x : Int, ∃ c : Int, j ≤ tv.length ∧ m = tv.length - j ∧ i = .int .i64 j ∧ v = .int .i64 x ∧ u = .int .i64 c ∧ -(4000000000000 * (j : Int)) ≤ x ∧ x ≤ 4000000000000 * (j : Int) ∧ 0 ≤ c ∧ c ≤ 4 * (j : Int) ∧ Hid (x + (tkT q a b (s.txs.drop j)).1 = (tkT q a b s.txs).1 ∧ c + (tkT q a b (s.txs.drop j)).2 = (tkT q a b s.txs).2) ∧ Hid (Below w.heap.size w wr))
  case atStart => exact ⟨0, 0, 0, by omega, rfl, rfl, rfl, rfl, by omega, by omega, by omega, by omega, ⟨by simp, by simp⟩, Below.refl _ _⟩
  case round =>
    obtain ⟨j, x, c, hj, rfl, rfl, rfl, rfl, hx0, hx1, hc0, hc1, Ho, Hb⟩ := hrel
    have hsz := (unhide Hb).size
    have HB := hide ((unhide H).blk.kept (unhide Hb))
    have e2 := (unhide HB).cell 2
    simp only [List.getElem?_toArray, List.getElem?_cons_zero, List.getElem?_cons_succ] at e2
    by_cases hlt : j < tv.length
    · obtain ⟨⟨t, v⟩, ht⟩ : ∃ t, tv[j]? = some t := ⟨tv[j], List.getElem?_eq_getElem hlt⟩
      obtain ⟨g, _, e1, hg, hg'⟩ := ownsRow_some (unhide H).txs.own (by omega)
      simp only [Value.slice.injEq, true_and] at e1
      obtain ⟨rfl, rfl⟩ := e1
      have h3 := three_get (fun x : Tn × Value => Value.int .i64 x.1.1) (fun x => .int .i64 x.1.2.1) (fun x => x.2) tv j (t, v) ht
      have hro := ownsRow_below (unhide H).txs.own (unhide Hb)
      have d0 := ownsRow_cell hro (j := j * 3) h3.1
      have d1 := ownsRow_cell hro (j := j * 3 + 1) h3.2.1
      have d2 := ownsRow_cell hro (j := j * 3 + 2) h3.2.2
      have hmem := List.mem_of_getElem? ht
      have hl := (unhide H).txs.lns _ hmem
      have hst : s.txs[j]? = some t := by rw [← unhide Hjr, List.getElem?_map, ht]; rfl
      have hgt := (unhide H).good.tx t (List.mem_of_getElem? hst)
      have hga := (unhide H).good.acc t (List.mem_of_getElem? hst)
      have Hst := hide (tkT_O (q := q) (a := a) (b := b) hst)
      obtain ⟨ti, td, ls⟩ := t
      simp only at d0 d1 d2 hl hgt Hst hga
      obtain ⟨aol, capl, rfl⟩ := ownsRow_form hl
      have hl4 := hgt.2.2.2.2.1
      have Hlb := hide hgt.2.2.2.2.2
      have Hga := hide hga
      have Hl := hide (ownsRow_below hl (unhide Hb))
      clear h3 hro hmem hl hst hgt ht hga
      obtain ⟨ok, hok⟩ : ∃ ok, inD a b td = ok := ⟨_, rfl⟩
      rw [hok] at Hst
      go_wp2_with fail
      obtain ⟨W, hW⟩ : ∃ W, W = wr.alloc (.cells #[.int .i64 ti, .int .i64 td, .slice aol ls.length capl] 87) := ⟨_, rfl⟩
      have HbW : Hid (Below w.heap.size w W) := by rw [hW]; exact (unhide Hb).alloc hsz _
      have HlW : Hid (W.ownsRow B 89 2 (.slice aol ls.length capl) ls.length (cellsL ls)) := by rw [hW]; exact (unhide Hl).alloc _
      have HTx : Hid (Blk W wr.heap.size #[.int .i64 ti, .int .i64 td, .slice aol ls.length capl] 87) := by rw [hW]; exact Blk.new _ _ _
      have hWs : W.heap.size = wr.heap.size + 1 := by rw [hW]; simp
      rw [← hW]
      clear hW
      go_loopg [12, 13, 16] ls.length (fun m v u i wx => ∃ k : Nat, ∃ y : Int, ∃ z : Int, k ≤ ls.length ∧ m = ls.length - k ∧ i = .int .i64 k ∧ v = .int .i64 y ∧ u = .int .i64 z ∧ -(4000000000000 * (j : Int)) - 1000000000000 * (k : Int) ≤ y ∧ y ≤ 4000000000000 * (j : Int) + 1000000000000 * (k : Int) ∧ 0 ≤ z ∧ z ≤ 4 * (j : Int) + k ∧ Hid (y + (tkO ok q (ls.drop k)).1 = x + (tkO ok q ls).1 ∧ z + (tkO ok q (ls.drop k)).2 = c + (tkO ok q ls).2) ∧ wx = W)
      case atStart => exact ⟨0, x, c, by omega, rfl, rfl, rfl, rfl, by omega, by omega, by omega, by omega, ⟨by simp, by simp⟩, rfl⟩
      case round =>
        obtain ⟨k, y, z, hk, rfl, rfl, rfl, rfl, hy0, hy1, hz0, hz1, Hy, hWx⟩ := hrel
        subst hWx
        have hszW := (unhide HbW).size
        have t1 := (unhide HTx).cell 1
        have t2 := (unhide HTx).cell 2
        simp only [List.getElem?_toArray, List.getElem?_cons_zero, List.getElem?_cons_succ] at t1 t2
        by_cases hlt2 : k < ls.length
        · obtain ⟨⟨la, lm⟩, hlk⟩ : ∃ l, ls[k]? = some l := ⟨ls[k], List.getElem?_eq_getElem hlt2⟩
          obtain ⟨g2, _, e1, hg2, hg2'⟩ := ownsRow_some (unhide HlW) (by omega)
          simp only [Value.slice.injEq, true_and] at e1
          obtain ⟨rfl, rfl⟩ := e1
          have h2 := two_get (fun x : Ln => Value.int .i64 x.1) (fun x => .int .i64 x.2) ls k (la, lm) hlk
          have f0 := ownsRow_cell (unhide HlW) (j := k * 2) h2.1
          have f1 := ownsRow_cell (unhide HlW) (j := k * 2 + 1) h2.2
          have hb := unhide Hlb (la, lm) (List.mem_of_getElem? hlk)
          have hla := unhide Hga (la, lm) (List.mem_of_getElem? hlk)
          have Hyes := hide (tkO_yes (ok := ok) (q := q) hlk)
          have Hno := hide (tkO_no (ok := ok) (q := q) hlk)
          simp only at f0 f1 hb hla Hyes Hno
          clear h2 hlk
          obtain ⟨wv, hwv⟩ : ∃ wv, wth s.acs n 16 la = wv := ⟨_, rfl⟩
          have Hc := hide (unhide Hwi wr la hla ⟨_, _, _, _, (unhide H).kept (unhide HbW)⟩)
          rw [hwv] at Hc
          have Hwr : Hid (lm ≤ 1000000000000 ∧ -1000000000000 ≤ lm) := ⟨hb.2.2.2, hb.2.2.1⟩
          have hwr : IntKind.i64.wrap (y + lm) = y + lm := by rw [IntKind.wrap_i64]; omega
          have hwz : IntKind.i64.wrap (z + 1) = z + 1 := by rw [IntKind.wrap_i64]; omega
          clear hb
          go_wp2_with fail
          refine (unhide Hc).mono ?_
          rintro e w1 ⟨rfl, hw1⟩
          subst hw1
          have Hin : Hid (q la = if sel == 33 then la == n else wv) := by show _ = _; rw [← unhide Hq, ← hwv]; rfl
          clear hwv Hc
          by_cases hs : sel = 33
          · subst hs
            have Hin2 : Hid (q la = (la == n)) := by show _ = _; have := unhide Hin; simpa using this
            clear Hin
            cases hv : (la == n) with
            | false =>
              have Hn := hide (unhide Hno (.inl (by rw [unhide Hin2, hv])))
              go_wp2_with fail
              go_roundg (ls.length - (k + 1))
              case measure => omega
              case rel => exact ⟨k + 1, y, z, by omega, rfl, by go_num, rfl, rfl, by omega, by omega, by omega, by omega, by have h1 := unhide Hy; have h2 := unhide Hn; show _ ∧ _; omega, rfl⟩
            | true =>
              have Hqt : Hid (q la = true) := by show _ = _; rw [unhide Hin2, hv]
              by_cases e1 : a ≤ td
              · by_cases e2 : td ≤ b
                · have Hn := hide (unhide Hyes (by rw [← hok]; simp [inD, e1, e2]) (unhide Hqt))
                  go_wp2_with fail
                  go_roundg (ls.length - (k + 1))
                  case measure => omega
                  case rel => exact ⟨k + 1, y + lm, z + 1, by omega, rfl, by go_num, rfl, rfl, by have := unhide Hwr; omega, by have := unhide Hwr; omega, by omega, by omega, by have h1 := unhide Hy; have h2 := unhide Hn; show _ ∧ _; omega, rfl⟩
                · have Hn := hide (unhide Hno (.inr (by rw [← hok]; simp [inD, e2])))
                  go_wp2_with fail
                  go_roundg (ls.length - (k + 1))
                  case measure => omega
                  case rel => exact ⟨k + 1, y, z, by omega, rfl, by go_num, rfl, rfl, by omega, by omega, by omega, by omega, by have h1 := unhide Hy; have h2 := unhide Hn; show _ ∧ _; omega, rfl⟩
              · have Hn := hide (unhide Hno (.inr (by rw [← hok]; simp [inD, e1])))
                go_wp2_with fail
                go_roundg (ls.length - (k + 1))
                case measure => omega
                case rel => exact ⟨k + 1, y, z, by omega, rfl, by go_num, rfl, rfl, by omega, by omega, by omega, by omega, by have h1 := unhide Hy; have h2 := unhide Hn; show _ ∧ _; omega, rfl⟩
          · have hne : (sel == 33) = false := by simpa using hs
            have Hin2 : Hid (q la = wv) := by have := unhide Hin; rw [hne] at this; exact this
            clear Hin
            cases wv with
            | false =>
              have Hn := hide (unhide Hno (.inl (unhide Hin2)))
              go_wp2_with fail
              go_roundg (ls.length - (k + 1))
              case measure => omega
              case rel => exact ⟨k + 1, y, z, by omega, rfl, by go_num, rfl, rfl, by omega, by omega, by omega, by omega, by have h1 := unhide Hy; have h2 := unhide Hn; show _ ∧ _; omega, rfl⟩
            | true =>
              by_cases e1 : a ≤ td
              · by_cases e2 : td ≤ b
                · have Hn := hide (unhide Hyes (by rw [← hok]; simp [inD, e1, e2]) (unhide Hin2))
                  go_wp2_with fail
                  go_roundg (ls.length - (k + 1))
                  case measure => omega
                  case rel => exact ⟨k + 1, y + lm, z + 1, by omega, rfl, by go_num, rfl, rfl, by have := unhide Hwr; omega, by have := unhide Hwr; omega, by omega, by omega, by have h1 := unhide Hy; have h2 := unhide Hn; show _ ∧ _; omega, rfl⟩
                · have Hn := hide (unhide Hno (.inr (by rw [← hok]; simp [inD, e2])))
                  go_wp2_with fail
                  go_roundg (ls.length - (k + 1))
                  case measure => omega
                  case rel => exact ⟨k + 1, y, z, by omega, rfl, by go_num, rfl, rfl, by omega, by omega, by omega, by omega, by have h1 := unhide Hy; have h2 := unhide Hn; show _ ∧ _; omega, rfl⟩
              · have Hn := hide (unhide Hno (.inr (by rw [← hok]; simp [inD, e1])))
                go_wp2_with fail
                go_roundg (ls.length - (k + 1))
                case measure => omega
                case rel => exact ⟨k + 1, y, z, by omega, rfl, by go_num, rfl, rfl, by omega, by omega, by omega, by omega, by have h1 := unhide Hy; have h2 := unhide Hn; show _ ∧ _; omega, rfl⟩
        · obtain rfl : k = ls.length := by omega
          have hyy : y = x + (tkO ok q ls).1 ∧ z = c + (tkO ok q ls).2 := by have := unhide Hy; rw [tkO_end] at this; simpa using this
          have Ho2 : Hid (y + (tkT q a b (s.txs.drop (j + 1))).1 = (tkT q a b s.txs).1 ∧ z + (tkT q a b (s.txs.drop (j + 1))).2 = (tkT q a b s.txs).2) := by
            have h1 := unhide Ho
            have h2 := unhide Hst
            show _ ∧ _
            omega
          clear hyy
          go_wp2_with fail
          go_roundg (tv.length - (j + 1))
          case measure => omega
          case rel => exact ⟨j + 1, y, z, by omega, rfl, by go_num, rfl, rfl, by omega, by omega, by omega, by omega, unhide Ho2, unhide HbW⟩
    · obtain rfl : j = tv.length := by omega
      have Hfin : Hid (x = (tkT q a b s.txs).1 ∧ c = (tkT q a b s.txs).2) := by
        have := unhide Ho
        rw [List.drop_of_length_le (by rw [← unhide Hjr, List.length_map]; exact Nat.le_refl _)] at this
        show _ ∧ _
        simpa [tkT] using this
      go_wp2_with fail
      go_ret2
      rw [(unhide Hfin).1, (unhide Hfin).2]
      exact ⟨rfl, unhide Hb⟩

end Go.Proofs.YtdchbenfccofpaaGreatDoor
namespace Go.Proofs.YtdchbenfccofpaaGreatDoor
open Go.RowKit Db

theorem ret_int {k : IntKind} {a b : Int} (h : a = b) : Ending.returned (.int k a) = .returned (.int k b) := by rw [h]

theorem bare_yes (s u : ByteArray) (k : Nat) (h : k < s.size) (hb : ¬ s[k].toNat = 32) (hu : L u = bare ((L s).take k)) :
    L (u ++ s.extract k (k + 1)) = bare ((L s).take (k + 1)) := by
  rw [L_append, L_one s k h, L_take_succ s k h, bare_append, bare_other hb, hu]
theorem bare_no (s u : ByteArray) (k : Nat) (h : k < s.size) (hb : s[k].toNat = 32) (hu : L u = bare ((L s).take k)) :
    L u = bare ((L s).take (k + 1)) := by
  rw [L_take_succ s k h, bare_append, bare_blank hb, hu, List.append_nil]
theorem bare_size (s u : ByteArray) (k : Nat) (hu : L u = bare ((L s).take k)) : u.size ≤ k := by
  rw [← L_length, hu]; exact Nat.le_trans (bare_le _) (List.length_take_le _ _)

set_option maxHeartbeats 400000 in
theorem bare_any (s : ByteArray) (w : World) (hs : s.size ≤ 200) :
    Calls Tryz.prog 153 #[.string s] w fun e w' => ∃ t : ByteArray, e = .returned (.string t) ∧ L t = bare (L s) ∧ w' = w := by
  go_enter Tryz.func153, Tryz.ntmps153
  go_wp2
  go_loop [3, 4] (fun t i => ∃ k : Nat, ∃ u : ByteArray, k ≤ s.size ∧ i = .int .i64 k ∧ t = .string u ∧ Hid (L u = bare ((L s).take k))) (fun _ i => s.size - (intOf i).toNat)
  case atStart => exact ⟨0, _, Nat.zero_le _, rfl, rfl, hide rfl⟩
  case round =>
    obtain ⟨k, u, hk, rfl, rfl, Hu⟩ := hrel
    have hz := bare_size s u k (unhide Hu)
    by_cases hlt : k < s.size
    · by_cases hb : s[k].toNat = 32
      · have hb' : ((s[k].toNat : Int) != 32) = false := by simp; omega
        go_wp2
        go_round
        case rel => exact ⟨k + 1, u, by omega, by go_num, rfl, bare_no s u k hlt hb (unhide Hu)⟩
        case measure => simp [intOf]; omega
      · have hb' : ((s[k].toNat : Int) != 32) = true := by simp; omega
        go_wp2
        go_round
        case rel => exact ⟨k + 1, _, by omega, by go_num, rfl, bare_yes s u k hlt hb (unhide Hu)⟩
        case measure => simp [intOf]; omega
    · go_wp2
      go_ret
      exact ⟨u, rfl, by rw [unhide Hu, L_take_end s k (by omega)], rfl⟩

theorem val_step (s : ByteArray) (k : Nat) (h : k < s.size) (n : Int) : valGo n ((L s).drop k) = valGo (10 * n + ((s[k].toNat : Int) - 48)) ((L s).drop (k + 1)) := by
  rw [L_drop s k h]; rfl
def pow10 (k : Nat) : Int := 10 ^ k
theorem pow10_succ (k : Nat) : pow10 (k + 1) = 10 * pow10 k := by unfold pow10; rw [Int.pow_succ]; omega
theorem pow10_pos (k : Nat) : 1 ≤ pow10 k := by
  induction k with
  | zero => decide
  | succ k ih => rw [pow10_succ]; omega
theorem pow10_le (k : Nat) (h : k ≤ 17) : pow10 k ≤ 100000000000000000 := by
  have : pow10 17 = 100000000000000000 := by decide
  have key : ∀ d j : Nat, j + d = 17 → pow10 j ≤ pow10 17 := by
    intro d
    induction d with
    | zero => intro j hj; rw [show j = 17 by omega]; exact Int.le_refl _
    | succ d ih => intro j hj; have := ih (j + 1) (by omega); rw [pow10_succ] at this; have := pow10_pos j; omega
  have := key (17 - k) k (by omega)
  omega

set_option maxHeartbeats 400000 in
theorem value_any (s : ByteArray) (w : World) (hs : s.size ≤ 18) (hd : ∀ k (h : k < s.size), 48 ≤ s[k].toNat ∧ s[k].toNat ≤ 57) :
    Calls Tryz.prog 154 #[.string s] w fun e w' => e = .returned (.int .i64 (val (L s))) ∧ 0 ≤ val (L s) ∧ val (L s) < pow10 s.size ∧ w' = w := by
  have Hd := hide hd
  clear hd
  go_enter Tryz.func154, Tryz.ntmps154
  go_wp2
  go_loop [3, 4] (fun t i => ∃ k : Nat, ∃ n : Int, k ≤ s.size ∧ i = .int .i64 k ∧ t = .int .i64 n ∧ 0 ≤ n ∧ n < pow10 k ∧ Hid (val (L s) = valGo n ((L s).drop k))) (fun _ i => s.size - (intOf i).toNat)
  case atStart => exact ⟨0, 0, Nat.zero_le _, rfl, rfl, by omega, by decide, hide rfl⟩
  case round =>
    obtain ⟨k, n, hk, rfl, rfl, h0, h1, Hu⟩ := hrel
    by_cases hlt : k < s.size
    · have hdd := unhide Hd k hlt
      have hp := pow10_le k (by omega)
      have hn : n ≤ 99999999999999999 := by omega
      clear hp
      go_wp2
      go_round
      case rel =>
        have hp2 := pow10_succ k
        refine ⟨k + 1, _, by omega, by go_num, rfl, by omega, by omega, ?_⟩
        show val _ = _
        rw [unhide Hu, val_step s k hlt]
      case measure => simp [intOf]; omega
    · go_wp2
      go_ret
      have hk' : k = s.size := by omega
      subst hk'
      have e : val (L s) = n := by rw [unhide Hu, L_drop_end s _ (Nat.le_refl _)]; rfl
      exact ⟨ret_int e.symm, by omega, by omega, rfl⟩


theorem split_step (s : ByteArray) (c : UInt8) (acc : List (List UInt8)) (f k : Nat) (hf : f ≤ k) (h : k < s.size) (hb : ¬ s[k] = c) :
    splitGo c acc (L (s.extract f k)) ((L s).drop k) = splitGo c acc (L (s.extract f (k + 1))) ((L s).drop (k + 1)) := by
  rw [L_drop s k h]
  show (if s[k] = c then _ else _) = _
  rw [if_neg hb]
  congr 1
  rw [L_extract, L_extract, show k + 1 - f = (k - f) + 1 by omega, List.take_succ_eq_append_getElem (by rw [List.length_drop, L_length]; omega)]
  congr 2
  rw [List.getElem_drop]
  simp only [show f + (k - f) = k by omega]
  exact (L_get s k h).symm
theorem split_cut (s : ByteArray) (c : UInt8) (acc : List (List UInt8)) (f k : Nat) (h : k < s.size) (hb : s[k] = c) :
    splitGo c acc (L (s.extract f k)) ((L s).drop k) = splitGo c (acc ++ [L (s.extract f k)]) (L (s.extract (k + 1) (k + 1))) ((L s).drop (k + 1)) := by
  rw [L_drop s k h]
  show (if s[k] = c then _ else _) = _
  rw [if_pos hb, L_extract s (k + 1) (k + 1), Nat.sub_self, List.take_zero]

theorem info_string : (Tryz.prog.info? 9).map (fun i => (i.zero, i.size, i.bytes)) = some (some (.string ⟨#[]⟩), 1, 16) := by kernel_rfl

set_option maxHeartbeats 400000 in
theorem split_any (s : ByteArray) (c : UInt8) (w : World) (hs : s.size ≤ 50000) :
    Calls Tryz.prog 77 #[.string s, .int .u8 (c.toNat : Int)] w fun e w' => ∃ v : Value, ∃ ss : List ByteArray, e = .returned v ∧ ss.map L = split (L s) c ∧
      w'.ownsRow w.heap.size 9 1 v ss.length (ss.map Value.string) ∧ Below w.heap.size w w' := by
  obtain ⟨i, hi, hz0, hz1, hz2⟩ := info_parts info_string
  go_enter Tryz.func77, Tryz.ntmps77
  go_wp2
  go_loopw [5, 6, 7] (fun v f i wr => ∃ k fr : Nat, ∃ ss : List ByteArray, fr ≤ k ∧ k ≤ s.size ∧ i = .int .i64 k ∧ f = .int .i64 fr ∧ ss.length ≤ k ∧
      Hid (splitGo c (ss.map L) (L (s.extract fr k)) ((L s).drop k) = split (L s) c) ∧ Hid (wr.ownsRow w.heap.size 9 1 v ss.length (ss.map Value.string)) ∧ Hid (Below w.heap.size w wr)) (fun _ _ i _ => s.size - (intOf i).toNat)
  case atStart => exact ⟨0, 0, [], by omega, by omega, rfl, rfl, by simp, hide (by rw [L_extract]; rfl), hide (World.ownsRow_nil _ _ _ _), hide (Below.refl _ _)⟩
  case round =>
    obtain ⟨k, fr, ss, hfr, hk, rfl, rfl, hss, Hs, Ho, Hb⟩ := hrel
    have hsz := (unhide Hb).size
    by_cases hlt : k < s.size
    · by_cases hc : s[k] = c
      · have hc' : ((s[k].toNat : Int) == (c.toNat : Int)) = true := by rw [hc]; simp
        have HC := hide hc
        clear hc
        go_wp2_with (first
          | (at_builtin; refine wpList_append_own _ rfl _ _ 115 rfl w.heap.size 9 i (.string ⟨#[]⟩) 1 16 Tryz.underlying115 hi hz0 hz1 hz2 rfl (by decide) _ _ _ rfl ((unhide Ho).alloc _) ⟨wr.heap.size, 0, none⟩ 1 1 [.string (s.extract fr k)] rfl rfl (cell_one_new _ _ _) (fun x hx => by simp at hx; subst hx; rfl) (by unfold maxLen; omega) (by omega) (by simp; omega) ?_; intro v' w2 hown2 hgr2 _))
        have Hown := hide hown2
        have Hgr := hide hgr2
        clear hown2 hgr2
        go_wp2
        go_roundw
        case rel =>
          refine ⟨k + 1, k + 1, ss ++ [s.extract fr k], by omega, by omega, by go_num, by go_num, by simp; omega, ?_, ?_, ?_⟩
          · show splitGo _ _ _ _ = _
            rw [← unhide Hs, split_cut s c _ fr k hlt (unhide HC)]; simp
          · show World.ownsRow _ _ _ _ _ _ _
            simpa using unhide Hown
          · exact ((unhide Hb).alloc hsz _).grown (unhide Hgr) (by simp; omega) (fun g hg => ((unhide Ho).lt g hg).1)
        case measure => simp [intOf]; omega
      · have hc' : ((s[k].toNat : Int) == (c.toNat : Int)) = false := by
          rw [beq_eq_false_iff_ne]; intro h; exact hc (UInt8.toNat_inj.1 (by omega))
        go_wp2
        go_roundw
        case rel =>
          refine ⟨k + 1, fr, ss, by omega, by omega, by go_num, rfl, by omega, ?_, Ho, Hb⟩
          show splitGo _ _ _ _ = _
          rw [← unhide Hs, split_step s c _ fr k hfr hlt hc]
        case measure => simp [intOf]; omega
    · have hk' : k = s.size := by omega
      subst hk'
      clear hk hlt
      go_wp2_with (first
          | (at_builtin; refine wpList_append_own _ rfl _ _ 115 rfl w.heap.size 9 i (.string ⟨#[]⟩) 1 16 Tryz.underlying115 hi hz0 hz1 hz2 rfl (by decide) _ _ _ rfl ((unhide Ho).alloc _) ⟨wr.heap.size, 0, none⟩ 1 1 [.string (s.extract fr s.size)] rfl rfl (cell_one_new _ _ _) (fun x hx => by simp at hx; subst hx; rfl) (by unfold maxLen; omega) (by omega) (by simp; omega) ?_; intro v' w2 hown2 hgr2 _))
      have Hown := hide hown2
      have Hgr := hide hgr2
      clear hown2 hgr2
      go_wp2
      go_ret
      refine ⟨v', ss ++ [s.extract fr s.size], rfl, ?_, ?_, ?_⟩
      · rw [← unhide Hs, L_drop_end s _ (Nat.le_refl _)]; simp [splitGo]
      · simpa using unhide Hown
      · exact ((unhide Hb).alloc hsz _).grown (unhide Hgr) (by simp; omega) (fun g hg => ((unhide Ho).lt g hg).1)

end Go.Proofs.YtdchbenfccofpaaGreatDoor
namespace Go.Proofs.YtdchbenfccofpaaGreatDoor
open Go.RowKit Db

/-- The byte ahead of place i. -/
def prv (s : ByteArray) (i : Nat) : Int := if h : 0 < i ∧ i - 1 < s.size then ((s[i - 1]'h.2).toNat : Int) else -1
theorem prv_zero (s : ByteArray) : prv s 0 = -1 := by simp [prv]
theorem prv_succ (s : ByteArray) (i : Nat) (h : i < s.size) : prv s (i + 1) = (s[i].toNat : Int) := by simp [prv, h]

set_option maxHeartbeats 400000 in
theorem binary_any (s : ByteArray) (i : Nat) (w : World) (hs : s.size ≤ 200) (hi : i < s.size) :
    Calls Tryz.prog 212 #[.string s, .int .i64 (i : Int)] w fun e w' => e = .returned (.bool (binB (prv s i) (s[i].toNat : Int))) ∧ w' = w := by
  by_cases ho : opB (s[i].toNat : Int) = true
  · by_cases h0 : i = 0
    · subst h0
      have Hp := hide (prv_zero s)
      go_enter Tryz.func212, Tryz.ntmps212
      go_wp2_with (go_at_call 161; refine (operation_any _ _).mono ?_; rintro e w' ⟨rfl, rfl⟩)
      go_ret
      exact ⟨by rw [unhide Hp]; simp [binB, digB], rfl⟩
    · obtain ⟨j, rfl⟩ : ∃ j, i = j + 1 := ⟨i - 1, by omega⟩
      have Hp := hide (prv_succ s j (by omega))
      have h0' : (((j + 1 : Nat) : Int) == 0) = false := by rw [beq_eq_false_iff_ne]; omega
      clear h0
      by_cases hd : digB (s[j].toNat : Int) = true
      all_goals
        go_enter Tryz.func212, Tryz.ntmps212
        go_wp2_with (first
          | (go_at_call 161; refine (operation_any _ _).mono ?_; rintro e w' ⟨rfl, rfl⟩)
          | (go_at_call 158; refine (digit_any _ _).mono ?_; rintro e w' ⟨rfl, rfl⟩))
        go_ret
        exact ⟨by rw [unhide Hp]; simp [binB, hd, ho], rfl⟩
  · go_enter Tryz.func212, Tryz.ntmps212
    go_wp2_with (go_at_call 161; refine (operation_any _ _).mono ?_; rintro e w' ⟨rfl, rfl⟩)
    go_ret
    exact ⟨by simp [binB, ho], rfl⟩


theorem fin_step (s : ByteArray) (a b : Int) (j : Nat) (h : j < s.size) (k at_ : Int) :
    finGo a b (prv s j) k at_ j ((L s).drop j) = finGo a b (prv s (j + 1)) (dep k (s[j].toNat : Int)) (hit a b (prv s j) (dep k (s[j].toNat : Int)) at_ j (s[j].toNat : Int)) ((j + 1 : Nat) : Int) ((L s).drop (j + 1)) := by
  rw [L_drop s j h, prv_succ s j h]; rfl
theorem bin_not (p c : Int) (h : c = 40 ∨ c = 41) : binB p c = false := by rcases h with rfl | rfl <;> simp [binB, opB]
theorem hit_not (a b p k at_ i c : Int) (h : binB p c = false) : hit a b p k at_ i c = at_ := by simp [hit, h]
theorem hit_deep (a b p k at_ i c : Int) (h : (k == 0) = false) : hit a b p k at_ i c = at_ := by simp [hit, h]
theorem hit_other (a b p k at_ i c : Int) (h : (c == a) = false) (h2 : (c == b) = false) : hit a b p k at_ i c = at_ := by simp [hit, h, h2]
theorem hit_yes (a b p k at_ i c : Int) (h : binB p c = true) (h1 : (k == 0) = true) (h2 : (c == a) = true ∨ (c == b) = true) : hit a b p k at_ i c = i := by
  simp only [hit, h, h1]; rcases h2 with h2 | h2 <;> simp [h2]
theorem dep_open (k c : Int) (h : (c == 40) = true) : dep k c = k + 1 := by simp only [dep, h]; rfl
theorem dep_shut (k c : Int) (h0 : (c == 40) = false) (h : (c == 41) = true) : dep k c = k - 1 := by simp only [dep, h0, h]; rfl
theorem dep_else (k c : Int) (h0 : (c == 40) = false) (h : (c == 41) = false) : dep k c = k := by simp only [dep, h0, h]; rfl

set_option maxHeartbeats 1000000 in
theorem final_any (s : ByteArray) (a b : Int) (w : World) (hs : s.size ≤ 200) :
    Calls Tryz.prog 193 #[.string s, .int .u8 a, .int .u8 b] w fun e w' => e = .returned (.int .i64 (fin (L s) a b)) ∧ w' = w := by
  go_enter Tryz.func193, Tryz.ntmps193
  go_wp2
  go_loop [7, 8, 9] (fun o t i => ∃ j : Nat, ∃ k at_ : Int, j ≤ s.size ∧ i = .int .i64 j ∧ o = .int .i64 k ∧ t = .int .i64 at_ ∧ -j ≤ k ∧ k ≤ j ∧ Hid (finGo a b (prv s j) k at_ j ((L s).drop j) = fin (L s) a b)) (fun _ _ i => s.size - (intOf i).toNat)
  case atStart => exact ⟨0, 0, -1, Nat.zero_le _, rfl, rfl, rfl, by omega, by omega, hide (by rw [prv_zero]; rfl)⟩
  case round =>
    obtain ⟨j, k, at_, hj, rfl, rfl, rfl, hk1, hk2, Hf⟩ := hrel
    by_cases hlt : j < s.size
    · have Hst := hide (fin_step s a b j hlt k at_)
      obtain ⟨bn, hbn⟩ : ∃ bn, binB (prv s j) (s[j].toNat : Int) = bn := ⟨_, rfl⟩
      have Hbn := hide hbn
      clear hbn
      by_cases h40 : ((s[j].toNat : Int) == 40) = true
      · have hb : bn = false := by rw [← unhide Hbn]; exact bin_not _ _ (Or.inl (by simpa using h40))
        subst hb
        go_wp2_with (go_at_call 212; refine (binary_any s j _ hs hlt).mono ?_; rintro e w' ⟨rfl, rfl⟩; rw [unhide Hbn])
        go_round
        case rel => exact ⟨j + 1, _, _, by omega, by go_num, rfl, rfl, by omega, by omega, by show _ = _; rw [← unhide Hf, unhide Hst, dep_open _ _ h40, hit_not _ _ _ _ _ _ _ (unhide Hbn)]⟩
        case measure => simp [intOf]; omega
      · have h40' : ((s[j].toNat : Int) == 40) = false := by simpa using h40
        by_cases h41 : ((s[j].toNat : Int) == 41) = true
        · have hb : bn = false := by rw [← unhide Hbn]; exact bin_not _ _ (Or.inr (by simpa using h41))
          subst hb
          go_wp2_with (go_at_call 212; refine (binary_any s j _ hs hlt).mono ?_; rintro e w' ⟨rfl, rfl⟩; rw [unhide Hbn])
          go_round
          case rel => exact ⟨j + 1, _, _, by omega, by go_num, rfl, rfl, by omega, by omega, by show _ = _; rw [← unhide Hf, unhide Hst, dep_shut _ _ h40' h41, hit_not _ _ _ _ _ _ _ (unhide Hbn)]⟩
          case measure => simp [intOf]; omega
        · have h41' : ((s[j].toNat : Int) == 41) = false := by simpa using h41
          have Hd := hide (dep_else k (s[j].toNat : Int) h40' h41')
          clear h40 h41
          cases bn with
          | false =>
            go_wp2_with (go_at_call 212; refine (binary_any s j _ hs hlt).mono ?_; rintro e w' ⟨rfl, rfl⟩; rw [unhide Hbn])
            go_round
            case rel => exact ⟨j + 1, _, _, by omega, by go_num, rfl, rfl, by omega, by omega, by show _ = _; rw [← unhide Hf, unhide Hst, unhide Hd, hit_not _ _ _ _ _ _ _ (unhide Hbn)]⟩
            case measure => simp [intOf]; omega
          | true =>
            by_cases hk0 : (k == 0) = true
            · by_cases ha : ((s[j].toNat : Int) == a) = true
              · go_wp2_with (go_at_call 212; refine (binary_any s j _ hs hlt).mono ?_; rintro e w' ⟨rfl, rfl⟩; rw [unhide Hbn])
                go_round
                case rel => exact ⟨j + 1, _, _, by omega, by go_num, rfl, rfl, by omega, by omega, by show _ = _; rw [← unhide Hf, unhide Hst, unhide Hd, hit_yes _ _ _ _ _ _ _ (unhide Hbn) hk0 (Or.inl ha)]⟩
                case measure => simp [intOf]; omega
              · have ha' : ((s[j].toNat : Int) == a) = false := by simpa using ha
                clear ha
                by_cases hb : ((s[j].toNat : Int) == b) = true
                · go_wp2_with (go_at_call 212; refine (binary_any s j _ hs hlt).mono ?_; rintro e w' ⟨rfl, rfl⟩; rw [unhide Hbn])
                  go_round
                  case rel => exact ⟨j + 1, _, _, by omega, by go_num, rfl, rfl, by omega, by omega, by show _ = _; rw [← unhide Hf, unhide Hst, unhide Hd, hit_yes _ _ _ _ _ _ _ (unhide Hbn) hk0 (Or.inr hb)]⟩
                  case measure => simp [intOf]; omega
                · have hb' : ((s[j].toNat : Int) == b) = false := by simpa using hb
                  clear hb
                  go_wp2_with (go_at_call 212; refine (binary_any s j _ hs hlt).mono ?_; rintro e w' ⟨rfl, rfl⟩; rw [unhide Hbn])
                  go_round
                  case rel => exact ⟨j + 1, _, _, by omega, by go_num, rfl, rfl, by omega, by omega, by show _ = _; rw [← unhide Hf, unhide Hst, unhide Hd, hit_other _ _ _ _ _ _ _ ha' hb']⟩
                  case measure => simp [intOf]; omega
            · have hk0' : (k == 0) = false := by simpa using hk0
              clear hk0
              go_wp2_with (go_at_call 212; refine (binary_any s j _ hs hlt).mono ?_; rintro e w' ⟨rfl, rfl⟩; rw [unhide Hbn])
              go_round
              case rel => exact ⟨j + 1, _, _, by omega, by go_num, rfl, rfl, by omega, by omega, by show _ = _; rw [← unhide Hf, unhide Hst, unhide Hd, hit_deep _ _ _ _ _ _ _ hk0']⟩
              case measure => simp [intOf]; omega
    · go_wp2
      go_ret
      exact ⟨ret_int (by rw [← unhide Hf, L_drop_end s _ (by omega)]; rfl), rfl⟩

/-- What a cut gives, as values. -/
def CutV (s : ByteArray) (o : Int) (l r : ByteArray) : Prop := (cut (L s)).1 = o ∧ L l = (cut (L s)).2.1 ∧ L r = (cut (L s)).2.2
theorem L_getD (s : ByteArray) (k : Nat) (h : k < s.size) : (L s).getD k 0 = s[k] := by
  rw [List.getD_eq_getElem?_getD, L_get? s k h]; rfl
theorem L_getD0 (s : ByteArray) (h : 0 < s.size) : (L s).getD 0 0 = s[0] := L_getD s 0 h
theorem cutV_at (s : ByteArray) (i : Nat) (h0 : 0 < i) (h : i < s.size) (hc : cutAt (L s) = (i : Int)) : CutV s (s[i].toNat : Int) (s.extract 0 i) (s.extract (i + 1) s.size) := by
  unfold CutV cut
  rw [if_pos (by rw [hc]; omega)]
  refine ⟨?_, ?_, ?_⟩
  · simp only [hc, Int.toNat_natCast]; rw [L_getD s i h]
  · simp only [hc, Int.toNat_natCast]; rw [L_extract]; simp
  · simp only [hc, Int.toNat_natCast]; rw [L_extract]; exact List.take_of_length_le (by rw [List.length_drop, L_length]; omega)
theorem cutV_neg (s : ByteArray) (hn : cutAt (L s) ≤ 0) (h : 1 < s.size) (hc : (s[0].toNat : Int) = 45) : CutV s 126 ⟨#[]⟩ (s.extract 1 s.size) := by
  unfold CutV cut
  rw [if_neg (Int.not_lt.2 hn), if_pos ⟨by rw [L_length]; exact h, by rw [L_getD0 s (by omega)]; exact hc⟩]
  refine ⟨rfl, rfl, ?_⟩
  rw [L_extract]; exact List.take_of_length_le (by rw [List.length_drop, L_length]; omega)
theorem cutV_par (s : ByteArray) (hn : cutAt (L s) ≤ 0) (h : 2 < s.size) (hc : (s[0].toNat : Int) = 40) : CutV s 40 ⟨#[]⟩ (s.extract 1 (s.size - 1)) := by
  unfold CutV cut
  rw [if_neg (Int.not_lt.2 hn), if_neg (by rintro ⟨_, h2⟩; rw [L_getD0 s (by omega)] at h2; omega), if_pos ⟨by rw [L_length]; exact h, by rw [L_getD0 s (by omega)]; exact hc⟩]
  refine ⟨rfl, rfl, ?_⟩
  rw [L_extract, L_length, show s.size - 1 - 1 = s.size - 2 by omega]
theorem cutV_not (s : ByteArray) (hn : cutAt (L s) ≤ 0) (h1 : ¬ (1 < (L s).length ∧ (((L s).getD 0 0).toNat : Int) = 45)) (h2 : ¬ (2 < (L s).length ∧ (((L s).getD 0 0).toNat : Int) = 40)) : CutV s 0 ⟨#[]⟩ s := by
  unfold CutV cut
  rw [if_neg (Int.not_lt.2 hn), if_neg h1, if_neg h2]
  exact ⟨rfl, rfl, rfl⟩

theorem cutV_not' (s : ByteArray) (hn : cutAt (L s) ≤ 0) (h1 : ¬ (1 < s.size ∧ ∃ h : 0 < s.size, (s[0].toNat : Int) = 45)) (h2 : ¬ (2 < s.size ∧ ∃ h : 0 < s.size, (s[0].toNat : Int) = 40)) : CutV s 0 ⟨#[]⟩ s := by
  refine cutV_not s hn ?_ ?_
  · rintro ⟨ha, hb⟩
    rw [L_length] at ha
    rw [L_getD0 s (by omega)] at hb
    exact h1 ⟨ha, by omega, hb⟩
  · rintro ⟨ha, hb⟩
    rw [L_length] at ha
    rw [L_getD0 s (by omega)] at hb
    exact h2 ⟨ha, by omega, hb⟩

set_option maxHeartbeats 1000000 in
theorem cut_any (s : ByteArray) (w : World) (hs : s.size ≤ 200) :
    Calls Tryz.prog 156 #[.string s] w fun e w' => ∃ o : Int, ∃ l r : ByteArray, e = .returned (.tuple #[.int .u8 o, .string l, .string r]) ∧ CutV s o l r ∧ ∃ n, w' = w.drewN n := by
  have hlt := cutAt_lt (L s)
  rw [L_length] at hlt
  obtain ⟨f1, hf1⟩ : ∃ f1, fin (L s) 43 45 = f1 := ⟨_, rfl⟩
  obtain ⟨f2, hf2⟩ : ∃ f2, fin (L s) 42 47 = f2 := ⟨_, rfl⟩
  obtain ⟨i, hi⟩ : ∃ i, cutAt (L s) = i := ⟨_, rfl⟩
  have hi' := hi
  unfold cutAt at hi'
  rw [hf1, hf2] at hi'
  rw [hi] at hlt
  have Hf1 := hide hf1
  have Hf2 := hide hf2
  have Hi := hide hi
  clear hf1 hf2 hi
  by_cases hneg : f1 < 0
  · rw [if_pos hneg] at hi'
    subst hi'
    by_cases hpos : 0 < f2
    · obtain ⟨n, rfl⟩ := Int.eq_ofNat_of_zero_le (show 0 ≤ f2 by omega)
      have hn : n < s.size := by omega
      have hn1 : n + 1 ≤ s.size := by omega
      go_enter Tryz.func156, Tryz.ntmps156
      go_wp2_with fail
      refine (final_any s 43 45 _ hs).mono ?_
      rintro e w' ⟨rfl, rfl⟩
      rw [unhide Hf1]
      go_wp2_with fail
      refine (final_any s 42 47 _ hs).mono ?_
      rintro e w' ⟨rfl, rfl⟩
      rw [unhide Hf2]
      go_wp2_with fail
      go_quiet (fail)
      go_wp2
      go_ret3
      exact ⟨_, _, _, rfl, cutV_at s n (by omega) hn (unhide Hi), _, rfl⟩
    have Hn : Hid (cutAt (L s) ≤ 0) := by show _ ≤ _; rw [unhide Hi]; omega
    by_cases h1 : 1 < s.size
    · have h0 : 0 < s.size := by omega
      by_cases h45 : ((s[0].toNat : Int) == 45) = true
      · have H45 : Hid ((s[0].toNat : Int) = 45) := by show _ = _; simpa using h45
        go_enter Tryz.func156, Tryz.ntmps156
        go_wp2_with fail
        refine (final_any s 43 45 _ hs).mono ?_
        rintro e w' ⟨rfl, rfl⟩
        rw [unhide Hf1]
        go_wp2_with fail
        refine (final_any s 42 47 _ hs).mono ?_
        rintro e w' ⟨rfl, rfl⟩
        rw [unhide Hf2]
        go_wp2_with fail
        go_quiet (fail)
        go_wp2
        go_ret3
        exact ⟨_, _, _, rfl, cutV_neg s (unhide Hn) h1 (unhide H45), _, rfl⟩
      have h45' : ((s[0].toNat : Int) == 45) = false := by simpa using h45
      have H45 : Hid (¬ (s[0].toNat : Int) = 45) := by show ¬ _; simpa using h45
      clear h45
      by_cases h2 : 2 < s.size
      · by_cases h40 : ((s[0].toNat : Int) == 40) = true
        · have H40 : Hid ((s[0].toNat : Int) = 40) := by show _ = _; simpa using h40
          have ez : ((s.size : Int) - 1) = ((s.size - 1 : Nat) : Int) := by omega
          have Hez := hide ez
          clear ez
          go_enter Tryz.func156, Tryz.ntmps156
          go_wp2_with fail
          refine (final_any s 43 45 _ hs).mono ?_
          rintro e w' ⟨rfl, rfl⟩
          rw [unhide Hf1]
          go_wp2_with fail
          refine (final_any s 42 47 _ hs).mono ?_
          rintro e w' ⟨rfl, rfl⟩
          rw [unhide Hf2]
          go_wp2_with fail
          go_quiet (fail)
          go_wp2
          go_ret3
          exact ⟨_, _, _, rfl, cutV_par s (unhide Hn) h2 (unhide H40), _, rfl⟩
        · have h40' : ((s[0].toNat : Int) == 40) = false := by simpa using h40
          have H40 : Hid (¬ (s[0].toNat : Int) = 40) := by show ¬ _; simpa using h40
          clear h40
          go_enter Tryz.func156, Tryz.ntmps156
          go_wp2_with fail
          refine (final_any s 43 45 _ hs).mono ?_
          rintro e w' ⟨rfl, rfl⟩
          rw [unhide Hf1]
          go_wp2_with fail
          refine (final_any s 42 47 _ hs).mono ?_
          rintro e w' ⟨rfl, rfl⟩
          rw [unhide Hf2]
          go_wp2_with fail
          go_ret3
          exact ⟨_, _, _, rfl, cutV_not' s (unhide Hn) (fun ⟨_, _, h⟩ => unhide H45 h) (fun ⟨_, _, h⟩ => unhide H40 h), 0, rfl⟩
      · 
        go_enter Tryz.func156, Tryz.ntmps156
        go_wp2_with fail
        refine (final_any s 43 45 _ hs).mono ?_
        rintro e w' ⟨rfl, rfl⟩
        rw [unhide Hf1]
        go_wp2_with fail
        refine (final_any s 42 47 _ hs).mono ?_
        rintro e w' ⟨rfl, rfl⟩
        rw [unhide Hf2]
        go_wp2_with fail
        go_ret3
        exact ⟨_, _, _, rfl, cutV_not' s (unhide Hn) (fun ⟨_, _, h⟩ => unhide H45 h) (fun ⟨h, _, _⟩ => by omega), 0, rfl⟩
    · 
      go_enter Tryz.func156, Tryz.ntmps156
      go_wp2_with fail
      refine (final_any s 43 45 _ hs).mono ?_
      rintro e w' ⟨rfl, rfl⟩
      rw [unhide Hf1]
      go_wp2_with fail
      refine (final_any s 42 47 _ hs).mono ?_
      rintro e w' ⟨rfl, rfl⟩
      rw [unhide Hf2]
      go_wp2_with fail
      go_ret3
      exact ⟨_, _, _, rfl, cutV_not' s (unhide Hn) (fun ⟨h, _, _⟩ => by omega) (fun ⟨h, _, _⟩ => by omega), 0, rfl⟩
  · rw [if_neg hneg] at hi'
    subst hi'
    by_cases hpos : 0 < f1
    · obtain ⟨n, rfl⟩ := Int.eq_ofNat_of_zero_le (show 0 ≤ f1 by omega)
      have hn : n < s.size := by omega
      have hn1 : n + 1 ≤ s.size := by omega
      go_enter Tryz.func156, Tryz.ntmps156
      go_wp2_with fail
      refine (final_any s 43 45 _ hs).mono ?_
      rintro e w' ⟨rfl, rfl⟩
      rw [unhide Hf1]
      go_wp2_with fail
      go_quiet (fail)
      go_wp2
      go_ret3
      exact ⟨_, _, _, rfl, cutV_at s n (by omega) hn (unhide Hi), _, rfl⟩
    have Hn : Hid (cutAt (L s) ≤ 0) := by show _ ≤ _; rw [unhide Hi]; omega
    by_cases h1 : 1 < s.size
    · have h0 : 0 < s.size := by omega
      by_cases h45 : ((s[0].toNat : Int) == 45) = true
      · have H45 : Hid ((s[0].toNat : Int) = 45) := by show _ = _; simpa using h45
        go_enter Tryz.func156, Tryz.ntmps156
        go_wp2_with fail
        refine (final_any s 43 45 _ hs).mono ?_
        rintro e w' ⟨rfl, rfl⟩
        rw [unhide Hf1]
        go_wp2_with fail
        go_quiet (fail)
        go_wp2
        go_ret3
        exact ⟨_, _, _, rfl, cutV_neg s (unhide Hn) h1 (unhide H45), _, rfl⟩
      have h45' : ((s[0].toNat : Int) == 45) = false := by simpa using h45
      have H45 : Hid (¬ (s[0].toNat : Int) = 45) := by show ¬ _; simpa using h45
      clear h45
      by_cases h2 : 2 < s.size
      · by_cases h40 : ((s[0].toNat : Int) == 40) = true
        · have H40 : Hid ((s[0].toNat : Int) = 40) := by show _ = _; simpa using h40
          have ez : ((s.size : Int) - 1) = ((s.size - 1 : Nat) : Int) := by omega
          have Hez := hide ez
          clear ez
          go_enter Tryz.func156, Tryz.ntmps156
          go_wp2_with fail
          refine (final_any s 43 45 _ hs).mono ?_
          rintro e w' ⟨rfl, rfl⟩
          rw [unhide Hf1]
          go_wp2_with fail
          go_quiet (fail)
          go_wp2
          go_ret3
          exact ⟨_, _, _, rfl, cutV_par s (unhide Hn) h2 (unhide H40), _, rfl⟩
        · have h40' : ((s[0].toNat : Int) == 40) = false := by simpa using h40
          have H40 : Hid (¬ (s[0].toNat : Int) = 40) := by show ¬ _; simpa using h40
          clear h40
          go_enter Tryz.func156, Tryz.ntmps156
          go_wp2_with fail
          refine (final_any s 43 45 _ hs).mono ?_
          rintro e w' ⟨rfl, rfl⟩
          rw [unhide Hf1]
          go_wp2_with fail
          go_ret3
          exact ⟨_, _, _, rfl, cutV_not' s (unhide Hn) (fun ⟨_, _, h⟩ => unhide H45 h) (fun ⟨_, _, h⟩ => unhide H40 h), 0, rfl⟩
      · 
        go_enter Tryz.func156, Tryz.ntmps156
        go_wp2_with fail
        refine (final_any s 43 45 _ hs).mono ?_
        rintro e w' ⟨rfl, rfl⟩
        rw [unhide Hf1]
        go_wp2_with fail
        go_ret3
        exact ⟨_, _, _, rfl, cutV_not' s (unhide Hn) (fun ⟨_, _, h⟩ => unhide H45 h) (fun ⟨h, _, _⟩ => by omega), 0, rfl⟩
    · 
      go_enter Tryz.func156, Tryz.ntmps156
      go_wp2_with fail
      refine (final_any s 43 45 _ hs).mono ?_
      rintro e w' ⟨rfl, rfl⟩
      rw [unhide Hf1]
      go_wp2_with fail
      go_ret3
      exact ⟨_, _, _, rfl, cutV_not' s (unhide Hn) (fun ⟨h, _, _⟩ => by omega) (fun ⟨h, _, _⟩ => by omega), 0, rfl⟩

end Go.Proofs.YtdchbenfccofpaaGreatDoor
namespace Go.Proofs.YtdchbenfccofpaaGreatDoor
open Go.RowKit Db

/-- What a step of a spot answers. -/
def SpotR (r : Option (Int × Int × Int)) (e : Ending) : Prop :=
  ∃ a d o : Int, ∃ ok : Bool, e = .returned (.tuple #[.agg #[.int .i64 a, .int .i64 d, .int .i64 o], .bool ok]) ∧ r = if ok then some (a, d, o) else none

theorem beq_false_of {a b : Int} (h : ¬ a = b) : (a == b) = false := by simpa using h
theorem dig_ne {c : Int} (h : digB c = true) (b : Int) (hb : digB b = false) : (c == b) = false := by
  rw [beq_eq_false_iff_ne]; intro e; subst e; rw [h] at hb; cases hb
theorem sel_ne {c : Int} (h : selB c = true) (b : Int) (hb : selB b = false) : (c == b) = false := by
  rw [beq_eq_false_iff_ne]; intro e; subst e; rw [h] at hb; cases hb
theorem old_ne {c : Int} (h : oldB c = true) (b : Int) (hb : oldB b = false) : (c == b) = false := by
  rw [beq_eq_false_iff_ne]; intro e; subst e; rw [h] at hb; cases hb
theorem op_ne {c : Int} (h : opB c = true) (b : Int) (hb : opB b = false) : (c == b) = false := by
  rw [beq_eq_false_iff_ne]; intro e; subst e; rw [h] at hb; cases hb
theorem sel_dig {c : Int} (h : selB c = true) : digB c = false := by
  simp [selB] at h; rcases h with (rfl | rfl) | rfl <;> rfl
theorem old_dig {c : Int} (h : oldB c = true) : digB c = false := by
  simp [oldB] at h; rcases h with rfl | rfl <;> rfl
theorem old_sel {c : Int} (h : oldB c = true) : selB c = false := by
  simp [oldB] at h; rcases h with rfl | rfl <;> rfl
theorem op_dig {c : Int} (h : opB c = true) : digB c = false := by
  simp [opB] at h; rcases h with ((rfl | rfl) | rfl) | rfl <;> rfl

end Go.Proofs.YtdchbenfccofpaaGreatDoor
namespace Go.Proofs.YtdchbenfccofpaaGreatDoor
open Go.RowKit Db

set_option maxHeartbeats 1000000 in
theorem joined_any (o a b : Int) (w : World) (ho : opB o = true) (ha : 0 ≤ a ∧ a ≤ 2) (hb : 0 ≤ b ∧ b ≤ 2) :
    Calls Tryz.prog 157 #[.int .u8 o, .int .i64 a, .int .i64 b] w fun e w' => e = .returned (.int .i64 (joinK o a b)) ∧ w' = w := by
  simp [opB] at ho
  have ha' : a = 0 ∨ a = 1 ∨ a = 2 := by omega
  have hb' : b = 0 ∨ b = 1 ∨ b = 2 := by omega
  clear ha hb
  rcases ho with ((rfl | rfl) | rfl) | rfl <;> rcases ha' with rfl | rfl | rfl <;> rcases hb' with rfl | rfl | rfl
  all_goals
    go_enter Tryz.func157, Tryz.ntmps157
    go_wp2
    go_ret
    exact ⟨rfl, rfl⟩

theorem ret_bool {a b : Bool} (h : a = b) : Ending.returned (.bool a) = .returned (.bool b) := by rw [h]
theorem oldDig_at (s : ByteArray) (h : oldDig (L s)) : ∀ i (hi : i + 1 < s.size), oldB ((s[i]'(by omega)).toNat : Int) = true → digB (s[i + 1].toNat : Int) = true := by
  intro i hi
  have key : ∀ (l : List UInt8) (i : Nat), oldDig l → ∀ c d r, l.drop i = c :: d :: r → oldB c.toNat = true → digB d.toNat = true := by
    intro l
    induction l with
    | nil => intro i _ c d r e; simp at e
    | cons x t ih =>
      intro i ho c d r e hc
      cases i with
      | zero =>
        simp at e
        obtain ⟨rfl, rfl⟩ := e
        exact ho.1 hc
      | succ i => exact ih i ho.2 c d r (by simpa using e) hc
  exact key (L s) i h _ _ _ (by rw [L_drop s i (by omega), L_drop s (i + 1) hi])
theorem rch_step (s : ByteArray) (row : Int) (i : Nat) (h : i + 1 < s.size) : rch row ((L s).drop i) = ((oldB ((s[i]'(by omega)).toNat : Int) && decide (row ≤ (s[i + 1].toNat : Int) - 48)) || rch row ((L s).drop (i + 1))) := by
  rw [L_drop s i (by omega), L_drop s (i + 1) h]; rfl
theorem rch_end (s : ByteArray) (row : Int) (i : Nat) (h : s.size ≤ i + 1) : rch row ((L s).drop i) = false := by
  by_cases hi : i < s.size
  · rw [L_drop s i hi, L_drop_end s (i + 1) h]; simp [rch]
  · rw [L_drop_end s i (by omega)]; rfl

set_option maxHeartbeats 1000000 in
theorem reaches_any (s : ByteArray) (row : Int) (w : World) (hs : s.size ≤ 200) (hr : oldDig (L s)) :
    Calls Tryz.prog 111 #[.string s, .int .i64 row] w fun e w' => e = .returned (.bool (rch row (L s))) ∧ w' = w := by
  have Ho := hide (oldDig_at s hr)
  clear hr
  go_enter Tryz.func111, Tryz.ntmps111
  go_wp2
  go_loop [5] (fun i => ∃ k : Nat, k ≤ s.size ∧ i = .int .i64 k ∧ Hid (rch row ((L s).drop k) = rch row (L s))) (fun i => s.size - (intOf i).toNat)
  case atStart => exact ⟨0, Nat.zero_le _, rfl, hide rfl⟩
  case round =>
    obtain ⟨k, hk, rfl, Hu⟩ := hrel
    by_cases hlt : k + 1 < s.size
    · have Hst := hide (rch_step s row k hlt)
      by_cases ho : oldB (s[k].toNat : Int) = true
      · have hd := unhide Ho k hlt ho
        simp [digB] at hd
        obtain ⟨hd1, hd2⟩ := hd
        by_cases hge : row ≤ (s[k + 1].toNat : Int) - 48
        · have Hge := hide hge
          go_wp2_with (go_at_call 155; refine (older_any _ _).mono ?_; rintro e w' ⟨rfl, rfl⟩)
          go_ret
          exact ⟨by rw [← unhide Hu, unhide Hst, ho]; simp [unhide Hge], rfl⟩
        · have Hge := hide hge
          go_wp2_with (go_at_call 155; refine (older_any _ _).mono ?_; rintro e w' ⟨rfl, rfl⟩)
          go_round
          case rel => exact ⟨k + 1, by omega, by go_num, by show _ = _; rw [← unhide Hu, unhide Hst]; have := unhide Hge; simp; omega⟩
          case measure => simp [intOf]; omega
      · have ho' : oldB (s[k].toNat : Int) = false := by simpa using ho
        clear ho
        have Hst' : Hid (rch row ((L s).drop k) = rch row ((L s).drop (k + 1))) := by
          show _ = _
          rw [unhide Hst, ho']; simp
        go_wp2_with (go_at_call 155; refine (older_any _ _).mono ?_; rintro e w' ⟨rfl, rfl⟩)
        go_round
        case rel => exact ⟨k + 1, by omega, by go_num, by show _ = _; rw [← unhide Hu, unhide Hst']⟩
        case measure => simp [intOf]; omega
    · have Hend := hide (rch_end s row k (by omega))
      go_wp2
      go_ret
      exact ⟨ret_bool (by rw [← unhide Hu, unhide Hend]), rfl⟩

theorem size_of_L {s t : ByteArray} {l : List UInt8} (h : L t = l) (hl : l.length ≤ (L s).length) : t.size ≤ s.size := by
  rw [← L_length, ← L_length, h]; exact hl

theorem info_int : (Tryz.prog.info? 3).map (fun i => (i.zero, i.size, i.bytes)) = some (some (.int .i64 0), 1, 8) := by kernel_rfl

/-- What the kind of a row comes to. -/
def KindR (rows : List Int) (ps : List Pt) (k : Int) : Prop := 0 ≤ k ∧ k ≤ 2 ∧ ∀ q st, kEval rows (ps ++ q) st = kEval rows q (k :: st)

set_option maxHeartbeats 1000000 in
theorem kind_leaf (s : ByteArray) (ps : List Pt) (rows : List Int) (v : Value) (base : Nat) (w : World) (hs : s.size ≤ 200) (hcut : cut (L s) = (0, [], L s)) (hop : Opnd (L s) ps)
    (hn : ∀ p ∈ ps, oldB p.1 = true → p.2.toNat < rows.length) (hrows : ∀ x ∈ rows, 0 ≤ x ∧ x ≤ 2) (hown : w.ownsRow base 3 1 v rows.length (rows.map (.int .i64))) :
    Calls Tryz.prog 112 #[.string s, v] w fun e w' => ∃ k, e = .returned (.int .i64 k) ∧ KindR rows ps k ∧ ∃ m, w' = w.drewN m := by
  rcases hop with ⟨h1, h18, hdig, rfl⟩ | ⟨c, ds, he, h1, hdig, hsel, rfl⟩
  · -- a number
    have hz : 0 < s.size := by rw [← L_length]; omega
    have hd0 : digB (s[0].toNat : Int) = true := hdig _ (by rw [← L_get s 0 hz]; exact List.getElem_mem _)
    have Hk : Hid (KindR rows [(48, val (L s))] 2) := ⟨by omega, by omega, fun q st => kEval_leaf rows (48, val (L s)) q st rfl⟩
    have Hcut := hide hcut
    have n64 := dig_ne hd0 64 rfl
    have n33 := dig_ne hd0 33 rfl
    have n36 := dig_ne hd0 36 rfl
    have n60 := dig_ne hd0 60 rfl
    clear hcut h1 h18 hdig hn hrows hown hd0
    go_enter Tryz.func112, Tryz.ntmps112
    go_wp2_with fail
    refine (cut_any s _ hs).mono ?_
    rintro e w1 ⟨o, l, r, rfl, ⟨hco, hcl, hcr⟩, m, rfl⟩
    rw [unhide Hcut] at hco hcl hcr
    obtain rfl : r = s := L_inj hcr
    subst hco
    clear hcl hcr
    go_wp2_with fail
    go_ret
    exact ⟨2, rfl, unhide Hk, _, rfl⟩
  · have hz : 0 < s.size := by rw [← L_length, he]; simp
    have hc0 : s[0] = c := by
      have e1 := L_get? s 0 hz
      rw [he] at e1
      simpa using e1.symm
    have Hcut := hide hcut
    clear hcut
    rcases hsel with ⟨hsel, hds⟩ | ⟨hold, hds⟩
    · have hc : c.toNat = 64 ∨ c.toNat = 33 ∨ c.toNat = 35 := by simp [selB] at hsel; omega
      rcases hc with hc | hc | hc
      · have hx : (s[0].toNat : Int) = 64 := by rw [hc0]; omega
        have Hk : Hid (KindR rows [((c.toNat : Int), val ds)] 1) := by
          refine ⟨by omega, by omega, fun q st => ?_⟩
          rw [kEval_leaf rows _ q st (by show opdB (c.toNat : Int) = true; rw [hc]; rfl)]
          simp [leafK, hc]
        clear hn hrows hown hsel hds he hdig h1 hc hc0
        go_enter Tryz.func112, Tryz.ntmps112
        go_wp2_with fail
        refine (cut_any s _ hs).mono ?_
        rintro e w1 ⟨o, l, r, rfl, ⟨hco, hcl, hcr⟩, m, rfl⟩
        rw [unhide Hcut] at hco hcl hcr
        obtain rfl : r = s := L_inj hcr
        subst hco
        clear hcl hcr
        go_wp2_with fail
        go_ret
        exact ⟨1, rfl, unhide Hk, _, rfl⟩
      · have hx : (s[0].toNat : Int) = 33 := by rw [hc0]; omega
        have Hk : Hid (KindR rows [((c.toNat : Int), val ds)] 1) := by
          refine ⟨by omega, by omega, fun q st => ?_⟩
          rw [kEval_leaf rows _ q st (by show opdB (c.toNat : Int) = true; rw [hc]; rfl)]
          simp [leafK, hc]
        clear hn hrows hown hsel hds he hdig h1 hc hc0
        go_enter Tryz.func112, Tryz.ntmps112
        go_wp2_with fail
        refine (cut_any s _ hs).mono ?_
        rintro e w1 ⟨o, l, r, rfl, ⟨hco, hcl, hcr⟩, m, rfl⟩
        rw [unhide Hcut] at hco hcl hcr
        obtain rfl : r = s := L_inj hcr
        subst hco
        clear hcl hcr
        go_wp2_with fail
        go_ret
        exact ⟨1, rfl, unhide Hk, _, rfl⟩
      · have hx : (s[0].toNat : Int) = 35 := by rw [hc0]; omega
        have Hk : Hid (KindR rows [((c.toNat : Int), val ds)] 2) := by
          refine ⟨by omega, by omega, fun q st => ?_⟩
          rw [kEval_leaf rows _ q st (by show opdB (c.toNat : Int) = true; rw [hc]; rfl)]
          simp [leafK, hc, oldB]
        clear hn hrows hown hsel hds he hdig h1 hc hc0
        go_enter Tryz.func112, Tryz.ntmps112
        go_wp2_with fail
        refine (cut_any s _ hs).mono ?_
        rintro e w1 ⟨o, l, r, rfl, ⟨hco, hcl, hcr⟩, m, rfl⟩
        rw [unhide Hcut] at hco hcl hcr
        obtain rfl : r = s := L_inj hcr
        subst hco
        clear hcl hcr
        go_wp2_with fail
        go_ret
        exact ⟨2, rfl, unhide Hk, _, rfl⟩
    · obtain ⟨x, rfl⟩ : ∃ x, ds = [x] := List.length_eq_one_iff.1 hds
      have hz1 : 1 < s.size := by rw [← L_length, he]; simp
      have hx1 : s[1] = x := by
        have e1 := L_get? s 1 hz1
        rw [he] at e1
        simpa using e1.symm
      have hxd := hdig x (by simp)
      rw [← hx1] at hxd
      simp [digB] at hxd
      obtain ⟨hx48, hx57⟩ := hxd
      have hxv : val [x] = (s[1].toNat : Int) - 48 := by rw [hx1]; simp [val, valGo]
      have hi : ((s[1].toNat : Int) - (48 : Int)).toNat = s[1].toNat - 48 := by omega
      have hlt : s[1].toNat - 48 < rows.length := by
        have := hn _ (List.mem_singleton.2 rfl) hold
        simp only at this
        rw [hxv, hi] at this
        exact this
      obtain ⟨k, hk⟩ : ∃ k, rows[s[1].toNat - 48]? = some k := ⟨rows[s[1].toNat - 48], List.getElem?_eq_getElem hlt⟩
      have hkm := hrows k (List.mem_of_getElem? hk)
      have Hk : Hid (KindR rows [((c.toNat : Int), val [x])] k) := by
        refine ⟨hkm.1, hkm.2, fun q st => ?_⟩
        rw [kEval_leaf rows _ q st (by show opdB (c.toNat : Int) = true; unfold opdB; rw [hold]; simp)]
        unfold leafK
        have h64 : ((c.toNat : Int) == 64 || (c.toNat : Int) == 33) = false := by rw [old_ne hold 64 rfl, old_ne hold 33 rfl]; rfl
        rw [h64, hold]
        simp [hxv, hi, hk]
      rcases hown.2 with ⟨_, h0⟩ | ⟨g, cap, cur, rfl, hbg, hgg, hcap, hcm, hcs, htk⟩
      · omega
      have hcell := hown.cells (g := g) rfl (s[1].toNat - 48) (.int .i64 k) (by rw [List.getElem?_map, hk]; rfl)
      rw [Addr.add_lit] at hcell
      simp only [Nat.zero_add] at hcell
      have hlen : rows.length ≤ maxLen := Nat.le_trans hcap hcm
      unfold maxLen at hlen
      obtain ⟨nn, hnn⟩ : ∃ nn, rows.length = nn := ⟨_, rfl⟩
      rw [hnn] at hlt hlen ⊢
      have hlt' : (s[1].toNat : Int) - 48 < nn := by omega
      have hcc : (s[0].toNat : Int) = 36 ∨ (s[0].toNat : Int) = 60 := by rw [hc0]; simp [oldB] at hold; omega
      clear hn hrows hown hds he hdig h1 hold hc0 hx1 hxv hi hk hkm hgg hcs htk hcap hcm hbg hnn
      rcases hcc with hx | hx
      · 
        go_enter Tryz.func112, Tryz.ntmps112
        go_wp2_with fail
        refine (cut_any s _ hs).mono ?_
        rintro e w1 ⟨o, l, r, rfl, ⟨hco, hcl, hcr⟩, m, rfl⟩
        rw [unhide Hcut] at hco hcl hcr
        obtain rfl : r = s := L_inj hcr
        subst hco
        clear hcl hcr
        go_wp2_with fail
        go_ret
        exact ⟨k, rfl, unhide Hk, _, rfl⟩
      · 
        go_enter Tryz.func112, Tryz.ntmps112
        go_wp2_with fail
        refine (cut_any s _ hs).mono ?_
        rintro e w1 ⟨o, l, r, rfl, ⟨hco, hcl, hcr⟩, m, rfl⟩
        rw [unhide Hcut] at hco hcl hcr
        obtain rfl : r = s := L_inj hcr
        subst hco
        clear hcl hcr
        go_wp2_with fail
        go_ret
        exact ⟨k, rfl, unhide Hk, _, rfl⟩

/-- The contract of kind, at depth n. -/
def KindC (n : Nat) : Prop := ∀ (s : ByteArray) (ps : List Pt) (rows : List Int) (v : Value) (base : Nat) (w : World), s.size ≤ 200 → Wf n (L s) ps →
    (∀ p ∈ ps, oldB p.1 = true → p.2.toNat < rows.length) → (∀ x ∈ rows, 0 ≤ x ∧ x ≤ 2) → w.ownsRow base 3 1 v rows.length (rows.map (.int .i64)) →
    Calls Tryz.prog 112 #[.string s, v] w fun e w' => ∃ k, e = .returned (.int .i64 k) ∧ KindR rows ps k ∧ ∃ m, w' = w.drewN m

theorem KindR.neg {rows : List Int} {p : List Pt} {k : Int} (h : KindR rows p k) : KindR rows (p ++ [(126, 0)]) k :=
  ⟨h.1, h.2.1, fun q st => kEval_neg rows p q k h.2.2 st⟩
theorem KindR.bin {rows : List Int} {o : Int} (ho : opB o = true) {p q : List Pt} {a b : Int} (hp : KindR rows p a) (hq : KindR rows q b) : KindR rows (p ++ q ++ [(o, 0)]) (joinK o a b) :=
  ⟨(joinK_bd o a b ⟨hp.1, hp.2.1⟩).1, (joinK_bd o a b ⟨hp.1, hp.2.1⟩).2, fun r st => kEval_bin rows o ho p q r a b hp.2.2 hq.2.2 st⟩

set_option maxHeartbeats 1000000 in
theorem kind_one (n : Nat) (ih : KindC n) (s : ByteArray) (ps p : List Pt) (rows : List Int) (v : Value) (base : Nat) (w : World) (hs : s.size ≤ 200) (ho : (cut (L s)).1 = 40 ∨ (cut (L s)).1 = 126) (hw : Wf n (cut (L s)).2.2 p)
    (hn : ∀ x ∈ p, oldB x.1 = true → x.2.toNat < rows.length) (hrows : ∀ x ∈ rows, 0 ≤ x ∧ x ≤ 2) (hown : w.ownsRow base 3 1 v rows.length (rows.map (.int .i64))) (hps : ∀ k, KindR rows p k → KindR rows ps k) :
    Calls Tryz.prog 112 #[.string s, v] w fun e w' => ∃ k, e = .returned (.int .i64 k) ∧ KindR rows ps k ∧ ∃ m, w' = w.drewN m := by
  have Hih := hide ih
  have Hw := hide hw
  have Hn := hide hn
  have Hrows := hide hrows
  have Hown := hide hown
  have Hps := hide hps
  have Ho := hide ho
  clear ih hw hn hrows hown hps ho
  go_enter Tryz.func112, Tryz.ntmps112
  go_wp2_with fail
  refine (cut_any s _ hs).mono ?_
  rintro e w1 ⟨o, l, r, rfl, ⟨hco, hcl, hcr⟩, m, rfl⟩
  have ho := unhide Ho
  rw [hco] at ho
  have Hr : Hid (Wf n (L r) p) := by show Wf _ _ _; rw [hcr]; exact unhide Hw
  have hrs : r.size ≤ 200 := Nat.le_trans (size_of_L hcr (cut_le (L s)).2) hs
  clear hco hcl hcr Ho Hw
  rcases ho with rfl | rfl
  all_goals
    go_wp2_with fail
    refine (unhide Hih r p rows v base _ hrs (unhide Hr) (unhide Hn) (unhide Hrows) (by exact unhide Hown)).mono ?_
    rintro e w2 ⟨k, rfl, hk, m2, rfl⟩
    have Hk := hide (unhide Hps k hk)
    clear hk
    go_wp2_with fail
    go_ret
    exact ⟨k, rfl, unhide Hk, m + m2, by simp [World.drewN]⟩

set_option maxHeartbeats 1000000 in
theorem kind_two (n : Nat) (ih : KindC n) (s : ByteArray) (p q : List Pt) (rows : List Int) (v : Value) (base : Nat) (w : World) (hs : s.size ≤ 200) (ho : opB (cut (L s)).1 = true) (hp : Wf n (cut (L s)).2.1 p) (hq : Wf n (cut (L s)).2.2 q)
    (hnp : ∀ x ∈ p, oldB x.1 = true → x.2.toNat < rows.length) (hnq : ∀ x ∈ q, oldB x.1 = true → x.2.toNat < rows.length) (hrows : ∀ x ∈ rows, 0 ≤ x ∧ x ≤ 2) (hown : w.ownsRow base 3 1 v rows.length (rows.map (.int .i64))) :
    Calls Tryz.prog 112 #[.string s, v] w fun e w' => ∃ k, e = .returned (.int .i64 k) ∧ KindR rows (p ++ q ++ [((cut (L s)).1, 0)]) k ∧ ∃ m, w' = w.drewN m := by
  have Hih := hide ih
  have Hp := hide hp
  have Hq := hide hq
  have Hnp := hide hnp
  have Hnq := hide hnq
  have Hrows := hide hrows
  have Hown := hide hown
  have Ho := hide ho
  clear ih hp hq hnp hnq hrows hown ho
  obtain ⟨oo, hoo⟩ : ∃ oo, (cut (L s)).1 = oo := ⟨_, rfl⟩
  rw [hoo]
  have Hoo := hide hoo
  clear hoo
  go_enter Tryz.func112, Tryz.ntmps112
  go_wp2_with fail
  refine (cut_any s _ hs).mono ?_
  rintro e w1 ⟨o, l, r, rfl, ⟨hco, hcl, hcr⟩, m, rfl⟩
  have ho := unhide Ho
  rw [hco] at ho
  obtain rfl : oo = o := (unhide Hoo).symm.trans hco
  have Hl : Hid (Wf n (L l) p) := by show Wf _ _ _; rw [hcl]; exact unhide Hp
  have Hr : Hid (Wf n (L r) q) := by show Wf _ _ _; rw [hcr]; exact unhide Hq
  have hls : l.size ≤ 200 := Nat.le_trans (size_of_L hcl (cut_le (L s)).1) hs
  have hrs : r.size ≤ 200 := Nat.le_trans (size_of_L hcr (cut_le (L s)).2) hs
  have n40 := op_ne ho 40 rfl
  have n126 := op_ne ho 126 rfl
  have n0 : (oo != 0) = true := by simp [bne, op_ne ho 0 rfl]
  have Hoq := hide ho
  clear hco hcl hcr Ho Hp Hq ho
  go_wp2_with fail
  refine (unhide Hih l p rows v base _ hls (unhide Hl) (unhide Hnp) (unhide Hrows) (by exact unhide Hown)).mono ?_
  rintro e w2 ⟨k, rfl, hk, m2, rfl⟩
  have hk0 := hk.1
  have hk1 := hk.2.1
  have Hk := hide hk
  clear hk
  go_wp2_with fail
  refine (unhide Hih r q rows v base _ hrs (unhide Hr) (unhide Hnq) (unhide Hrows) (by exact unhide Hown)).mono ?_
  rintro e w2 ⟨k2, rfl, hk, m3, rfl⟩
  have hk20 := hk.1
  have hk21 := hk.2.1
  have Hk2 := hide hk
  clear hk
  go_wp2_with fail
  refine (joined_any oo k k2 _ (unhide Hoq) ⟨hk0, hk1⟩ ⟨hk20, hk21⟩).mono ?_
  rintro e w2 ⟨rfl, rfl⟩
  have Hj := hide ((unhide Hk).bin (unhide Hoq) (unhide Hk2))
  go_wp2_with fail
  go_ret
  exact ⟨_, rfl, unhide Hj, m + m2 + m3, by simp [World.drewN, Nat.add_assoc]⟩

theorem kind_any (n : Nat) : KindC n := by
  induction n with
  | zero => intro s ps rows v base w hs hw; exact absurd hw (by simp [Wf])
  | succ n ih =>
    intro s ps rows v base w hs hw hn hrows hown
    rcases hw with ⟨hc, hop⟩ | ⟨hc, hw⟩ | ⟨hc, p, hw, rfl⟩ | ⟨hc, p, q, hp, hq, rfl⟩
    · exact kind_leaf s ps rows v base w hs hc hop hn hrows hown
    · exact kind_one n ih s ps ps rows v base w hs (.inl hc) hw hn hrows hown (fun _ h => h)
    · exact kind_one n ih s _ p rows v base w hs (.inr hc) hw (fun x hx => hn x (by simp [hx])) hrows hown (fun _ h => h.neg)
    · exact kind_two n ih s p q rows v base w hs hc hp hq (fun x hx => hn x (by simp [hx])) (fun x hx => hn x (by simp [hx])) hrows hown

end Go.Proofs.YtdchbenfccofpaaGreatDoor
