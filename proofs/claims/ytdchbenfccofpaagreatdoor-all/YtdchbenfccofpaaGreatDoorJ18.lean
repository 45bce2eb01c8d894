/- Own texts of the theorem in YtdchbenfccofpaaGreatDoorWAlY, part 18. -/
import Derived.Test.YtdchbenfccofpaaGreatDoorJ17
set_option maxRecDepth 100000
set_option maxHeartbeats 8000000
namespace Go.Proofs.YtdchbenfccofpaaGreatDoor
open Go.RowKit Db
theorem info_gcell : (Tryz.prog.info? 205).map (fun i => (i.zero, i.size, i.bytes)) = some (some (.agg #[.int .i64 0, .int .i64 0]), 2, 16) := by kernel_rfl
theorem own_lastG {w : World} {B g cap : Nat} {e : TypeId} {q : List Cl} {x : Cl} (h : w.ownsRow B e 2 (.slice (some ⟨g, 0, none⟩) (q.length + 1) cap) (q.length + 1) (cellsG (q ++ [x]))) (d : Cl) :
  ((w.setCell ⟨g, q.length * 2, none⟩ (.int .i64 (gst d.2))).setCell ⟨g, q.length * 2 + 1, none⟩ (.int .i64 d.1)).ownsRow B e 2 (.slice (some ⟨g, 0, none⟩) (q.length + 1) cap) (q.length + 1) (cellsG (q ++ [d])) := by
 obtain ⟨_, h2⟩ := h
 rcases h2 with ⟨h0, _⟩ | ⟨g', cap', cur, hv, hg, hh, hn, hcap, hsz, htake⟩
 ·cases h0
 ·cases hv
  refine ⟨by rw [cellsG_length]; simp, .inr ⟨g, cap, (cur.setIfInBounds (q.length * 2) (.int .i64 (gst d.2))).setIfInBounds (q.length * 2 + 1) (.int .i64 d.1), rfl, hg, ?_, hn, hcap, by simpa using hsz, ?_⟩⟩
  ·exact Blk.set (Blk.set hh (q.length * 2) (.int .i64 (gst d.2))) (q.length * 2 + 1) (.int .i64 d.1)
  ·rw [Array.toList_setIfInBounds, Array.toList_setIfInBounds]
   have h1 : (cur.toList.take ((q.length + 1) * 2)).take (q.length * 2) = cellsG q := by
    rw [htake, cellsG_append, List.take_append_of_le_length (by rw [cellsG_length]; omega), List.take_of_length_le (by rw [cellsG_length]; omega)]
   rw [List.take_take, show min (q.length * 2) ((q.length + 1) * 2) = q.length * 2 by omega] at h1
   have hl : q.length * 2 + 2 ≤ cur.toList.length := by
    have := congrArg List.length htake
    rw [cellsG_length] at this
    simp at this
    simp
    omega
   rw [show (q.length + 1) * 2 = q.length * 2 + 1 + 1 by omega, List.take_succ_eq_append_getElem (by simp at hl ⊢; omega), List.take_succ_eq_append_getElem (by simp at hl ⊢; omega)]
   rw [List.take_set_of_le (by omega), List.take_set_of_le (by omega), h1, cellsG_append]
   simp [cellsG]
theorem own_lessG {w : World} {B g cap : Nat} {e : TypeId} {q : List Cl} {x y : Cl} (h : w.ownsRow B e 2 (.slice (some ⟨g, 0, none⟩) (q.length + 2) cap) (q.length + 2) (cellsG (q ++ [x, y]))) :
  w.ownsRow B e 2 (.slice (some ⟨g, 0, none⟩) (q.length + 1) cap) (q.length + 1) (cellsG (q ++ [x])) := by
 obtain ⟨_, h2⟩ := h
 rcases h2 with ⟨h0, _⟩ | ⟨g', cap', cur, hv, hg, hh, hn, hcap, hsz, htake⟩
 ·cases h0
 ·cases hv
  refine ⟨by rw [cellsG_length]; simp, .inr ⟨g, cap, cur, rfl, hg, hh, by omega, hcap, hsz, ?_⟩⟩
  have h1 : (cur.toList.take ((q.length + 2) * 2)).take ((q.length + 1) * 2) = cellsG (q ++ [x]) := by
   rw [htake, show q ++ [x, y] = (q ++ [x]) ++ [y] by simp, cellsG_append (q ++ [x]), List.take_append_of_le_length (by rw [cellsG_length]; simp), List.take_of_length_le (by rw [cellsG_length]; simp)]
  rwa [List.take_take, show min ((q.length + 1) * 2) ((q.length + 2) * 2) = (q.length + 1) * 2 by omega] at h1
theorem snocG1 (q : List Cl) (h : 1 ≤ q.length) : ∃ r x, q = r ++ [x] := by
 cases hq : q.reverse with
 | nil => simp at hq; subst hq; simp at h
 | cons y t => exact ⟨t.reverse, y, by have := congrArg List.reverse hq; simpa using this⟩
theorem snocG2 (q : List Cl) (h : 2 ≤ q.length) : ∃ r x y, q = r ++ [x, y] := by
 obtain ⟨r, y, rfl⟩ := snocG1 q (by omega)
 simp at h
 obtain ⟨r, x, rfl⟩ := snocG1 r (by omega)
 exact ⟨r, x, y, by simp⟩
theorem fold_none (E : Pt → Cl) (ps : List Pt) : ps.foldl (vStep E) none = none := by
 induction ps with
 | nil => rfl
 | cons p t ih => exact ih
structure GLoop (w wr : World) (E : Pt → Cl) (ps : List Pt) (c : Cl) (j : Nat) (q : List Cl) (vq : Value) : Prop where
 ev : (ps.drop j).foldl (vStep E) (some q.reverse) = some [c]
 res : Blk wr (w.heap.size + 1) #[.int .i64 0, .int .i64 0] 205
 own : wr.ownsRow (w.heap.size + 2) 205 2 vq q.length (cellsG q)
 bel : Below w.heap.size w wr
 ok : ∀ c ∈ q, ClOk c
theorem GLoop.opnd {w wr w' : World} {E : Pt → Cl} {ps : List Pt} {c : Cl} {j : Nat} {q : List Cl} {vq vq' : Value} {p : Pt} (h : GLoop w wr E ps c j q vq) (hp : ps[j]? = some p) (ho : opdB p.1 = true) (hc : ClOk (opv E p))
  (hown : w'.ownsRow (w.heap.size + 2) 205 2 vq' (q.length + 1) (cellsG q ++ [.int .i64 (gst (opv E p).2), .int .i64 (opv E p).1])) (hb : Below w.heap.size w w') (hr : Blk w' (w.heap.size + 1) #[.int .i64 0, .int .i64 0] 205) : GLoop w w' E ps c (j + 1) (q ++ [opv E p]) vq' := by
 have hd := drop_cons hp
 refine ⟨?_, hr, by rw [cellsG_snoc]; simpa using hown, hb, ?_⟩
 ·have := h.ev
  rw [hd, List.foldl_cons] at this
  simp only [vStep, ho, if_true] at this
  simpa using this
 ·intro x hx
  simp at hx
  rcases hx with hx | rfl
  ·exact h.ok x hx
  ·exact hc
theorem GLoop.one {w wr : World} {E : Pt → Cl} {ps : List Pt} {c : Cl} {j : Nat} {q : List Cl} {vq : Value} {p : Pt} (h : GLoop w wr E ps c j q vq) (hp : ps[j]? = some p) (ho : opdB p.1 = false) (h126 : p.1 = 126) : 1 ≤ q.length := by
 have hd := drop_cons hp
 have e1 : (p.1 == 126) = true := by simp [h126]
 cases hq : q with
 | cons x t => simp
 | nil =>
  have := h.ev
  rw [hd, List.foldl_cons, hq] at this
  simp only [vStep, ho, e1, if_true, Bool.false_eq_true, if_false, List.reverse_nil] at this
  rw [fold_none] at this
  cases this
theorem GLoop.two {w wr : World} {E : Pt → Cl} {ps : List Pt} {c : Cl} {j : Nat} {q : List Cl} {vq : Value} {p : Pt} (h : GLoop w wr E ps c j q vq) (hp : ps[j]? = some p) (ho : opdB p.1 = false) (h126 : ¬ p.1 = 126) : 2 ≤ q.length := by
 have hd := drop_cons hp
 have e1 : (p.1 == 126) = false := by simpa using h126
 have := h.ev
 rw [hd, List.foldl_cons] at this
 simp only [vStep, ho, e1, Bool.false_eq_true, if_false] at this
 cases hq : q.reverse with
 | nil => rw [hq] at this; simp only at this; rw [fold_none] at this; cases this
 | cons y t =>
  cases ht : t with
  | nil => rw [hq, ht] at this; simp only at this; rw [fold_none] at this; cases this
  | cons x u =>
   have := congrArg List.length hq
   rw [ht] at this
   simp at this
   omega
theorem GLoop.neg {w wr w' : World} {E : Pt → Cl} {ps : List Pt} {c : Cl} {j : Nat} {q : List Cl} {x : Cl} {vq : Value} {p : Pt} (h : GLoop w wr E ps c j (q ++ [x]) vq) (hp : ps[j]? = some p) (ho : opdB p.1 = false) (h126 : p.1 = 126)
  (hown : w'.ownsRow (w.heap.size + 2) 205 2 vq (q.length + 1) (cellsG (q ++ [don 45 (0, 0) x]))) (hb : Below w.heap.size w w') (hr : Blk w' (w.heap.size + 1) #[.int .i64 0, .int .i64 0] 205) : GLoop w w' E ps c (j + 1) (q ++ [don 45 (0, 0) x]) vq := by
 have hd := drop_cons hp
 have e1 : (p.1 == 126) = true := by simp [h126]
 refine ⟨?_, hr, by simpa using hown, hb, ?_⟩
 ·have := h.ev
  rw [hd, List.foldl_cons] at this
  simp only [vStep, ho, e1, if_true, Bool.false_eq_true, if_false, List.reverse_append, List.reverse_cons, List.reverse_nil, List.nil_append, List.cons_append] at this
  simpa using this
 ·intro y hy
  simp at hy
  rcases hy with hy | rfl
  ·exact h.ok y (by simp [hy])
  ·exact don_ok (.inl ⟨rfl, rfl⟩) (h.ok x (by simp))
theorem GLoop.join {w wr w' : World} {E : Pt → Cl} {ps : List Pt} {c : Cl} {j : Nat} {q : List Cl} {x y : Cl} {vq vq' : Value} {p : Pt} (h : GLoop w wr E ps c j (q ++ [x, y]) vq) (hp : ps[j]? = some p) (ho : opdB p.1 = false) (h126 : ¬ p.1 = 126)
  (hown : w'.ownsRow (w.heap.size + 2) 205 2 vq' (q.length + 1) (cellsG (q ++ [don p.1 x y]))) (hb : Below w.heap.size w w') (hr : Blk w' (w.heap.size + 1) #[.int .i64 0, .int .i64 0] 205) : GLoop w w' E ps c (j + 1) (q ++ [don p.1 x y]) vq' := by
 have hd := drop_cons hp
 have e1 : (p.1 == 126) = false := by simpa using h126
 refine ⟨?_, hr, by simpa using hown, hb, ?_⟩
 ·have := h.ev
  rw [hd, List.foldl_cons] at this
  simp only [vStep, ho, e1, Bool.false_eq_true, if_false, List.reverse_append, List.reverse_cons, List.reverse_nil, List.nil_append, List.cons_append] at this
  simpa using this
 ·intro z hz
  simp at hz
  rcases hz with hz | rfl
  ·exact h.ok z (by simp [hz])
  ·exact don_ok (h.ok x (by simp)) (h.ok y (by simp))
theorem GLoop.done {w wr : World} {E : Pt → Cl} {ps : List Pt} {c : Cl} {j : Nat} {q : List Cl} {vq : Value} (h : GLoop w wr E ps c j q vq) (hj : ps.length ≤ j) : q = [c] := by
 have := h.ev
 rw [List.drop_eq_nil_of_le hj] at this
 simp only [List.foldl_nil, Option.some.injEq] at this
 have h2 := congrArg List.reverse this
 simpa using h2
def PtOk (n : Nat) (p : Pt) : Prop := inR p.2 = true ∧ (oldB p.1 = true → 0 ≤ p.2 ∧ p.2.toNat < n)
theorem sWork_any (q0 k : Nat) (b : Bk) (pd : List (List UInt8 × List UInt8)) (cells : List (List Cl)) (vp : Value) (ps : List Pt) (Bp : Nat) (c : Cl) (w : World) (h : Sht' w q0 b pd cells) (hp : w.ownsRow Bp 197 2 vp ps.length (cellsP ps)) (hpl : ps.length ≤ 200) (hk : k < pd.length)
  (hv : ValR (gE b pd cells k) ps c) (hn : ∀ p ∈ ps, PtOk cells.length p) :
  Calls Tryz.prog 133 #[.pointer (some ⟨q0, 0, none⟩), .agg #[vp], .int .i64 (k : Int)] w fun e w' => e = .returned (gV c) ∧ ClOk c ∧ Below w.heap.size w w' := by
 obtain ⟨ii, hi, hz0, hz1, hz2⟩ := info_parts info_gcell
 obtain ⟨aop, capp, rfl⟩ := oForm hp
 have HS := hI h
 have Hp := hI hp
 have Hn := hI hn
 obtain ⟨E, hE⟩ : ∃ E, gE b pd cells k = E := ⟨_, rfl⟩
 rw [hE] at hv
 have Hop : Hid (∀ (wx : World) (p : Pt), Below w.heap.size w wx → p ∈ ps → opdB p.1 = true → Calls Tryz.prog 176 #[.pointer (some ⟨q0, 0, none⟩), .agg #[.int .u8 p.1, .int .i64 p.2], .int .i64 (k : Int)] wx fun e w' => e = .returned (gV (opv E p)) ∧ ClOk (opv E p) ∧ Below wx.heap.size wx w') := by
  intro wx p hb hpm ho
  have := sOperand_any q0 k b pd cells wx p.1 p.2 ho (h.kept hb) hk (hn p hpm).1 (hn p hpm).2
  rw [hE] at this
  exact this
 have Hst : Hid (GLoop w ((w.alloc (.cells #[.slice aop ps.length capp] 165)).alloc (.cells #[.int .i64 0, .int .i64 0] 205)) E ps c 0 [] (.slice none 0 0)) := by
  refine ⟨hv [], ?_, World.ownsRow_nil _ _ _ _, ((Below.refl _ _).alloc (Nat.le_refl _) _).alloc (by simp) _, by simp⟩
  have := Blk.new (w.alloc (.cells #[.slice aop ps.length capp] 165)) #[.int .i64 0, .int .i64 0] 205
  simpa using this
 clear h hp hn hv hE
 go_enter Tryz.func133, Tryz.ntmps133
 go_wp2_with fail
 go_loopg [7, 16] ps.length (fun m vq i wr => ∃ j : Nat, ∃ q : List Cl, j ≤ ps.length ∧ m = ps.length - j ∧ i = .int .i64 j ∧ q.length ≤ j ∧ w.heap.size + 1 < wr.heap.size ∧ Hid (GLoop w wr E ps c j q vq))
 case atStart => exact ⟨0, [], by omega, rfl, rfl, by simp, by simp, Hst.u⟩
 case round =>
  obtain ⟨j, q, hj, rfl, rfl, hq, hsz, Hl⟩ := hrel
  obtain ⟨aoq, capq, hvq⟩ := oForm Hl.u.own
  subst hvq
  by_cases hlt : j < ps.length
  ·obtain ⟨pj, hpj⟩ : ∃ pj, ps[j]? = some pj := ⟨ps[j], List.getElem?_eq_getElem hlt⟩
   obtain ⟨g2, _, e1, hg2, hg2'⟩ := oSome Hp.u (by omega)
   simp only [Value.slice.injEq, true_and] at e1
   obtain ⟨rfl, rfl⟩ := e1
   have hc := two_get (fun p : Pt => Value.int .u8 p.1) (fun p => Value.int .i64 p.2) ps j pj hpj
   have hro := oBelow Hp.u Hl.u.bel
   have d1 := oCell hro (j := j * 2) hc.1
   have d2 := oCell hro (j := j * 2 + 1) hc.2
   have Hmem := hI (List.mem_of_getElem? hpj)
   have Hpj := hI hpj
   clear hro hc hpj
   obtain ⟨s, n⟩ := pj
   simp only at d1 d2
   go_wp2_with fail
   refine (isOperand_any s n _).mono ?_
   rintro e w3 ⟨rfl, hb3⟩
   have f0 := hb3.cell (p := ⟨wr.heap.size, 0, none⟩) (by simp)
   have f1 := hb3.cell (p := ⟨wr.heap.size, 1, none⟩) (by simp)
   have hb3s := hb3.size
   simp at f0 f1 hb3s
   have Hb3 : Hid (Below w.heap.size w w3) := (Hl.u.bel.alloc (by omega) _).then' (by simp; omega) hb3
   have Hq3 := hI (oBelow (Hl.u.own.alloc (.cells #[.int .u8 s, .int .i64 n] 197)) hb3)
   have HR3 := hI ((Hl.u.res.alloc (.cells #[.int .u8 s, .int .i64 n] 197)).kept hb3)
   clear hb3
   cases ho : opdB s with
   | true =>
    have Hoo := hI ho
    have Hcall := hI (Hop.u w3 (s, n) Hb3.u Hmem.u ho)
    have Hnew : Hid (∀ {w' : World} {vq' : Value}, ClOk (opv E (s, n)) → w'.ownsRow (w.heap.size + 2) 205 2 vq' (q.length + 1) (cellsG q ++ [.int .i64 (gst (opv E (s, n)).2), .int .i64 (opv E (s, n)).1]) → Below w.heap.size w w' → Blk w' (w.heap.size + 1) #[.int .i64 0, .int .i64 0] 205 → GLoop w w' E ps c (j + 1) (q ++ [opv E (s, n)]) vq') := fun h1 h2 h3 h4 => Hl.u.opnd Hpj.u ho h1 h2 h3 h4
    obtain ⟨d, hd⟩ : ∃ d, opv E (s, n) = d := ⟨_, rfl⟩
    rw [hd] at Hcall Hnew
    obtain ⟨da, db⟩ := d
    unfold gV at Hcall
    simp only at Hcall Hnew
    obtain ⟨z, hz⟩ : ∃ z, gst db = z := ⟨_, rfl⟩
    rw [hz] at Hcall Hnew
    clear hd hz
    go_wp2_with fail
    refine Hcall.u.mono ?_
    rintro e w4 ⟨rfl, hok4, hb4⟩
    have Hok4 := hI hok4
    have Hb4 := hI (Hb3.u.then' (by omega) hb4)
    have Hq4 := hI (oBelow Hq3.u hb4)
    have HR4 := hI (HR3.u.kept hb4)
    have hb4s := hb4.size
    clear hb4 hok4 Hcall
    go_wp2_with (first
     | (at_builtin; refine wpList_append_own _ rfl (.tmp 28) (.tmp 30) 202 rfl (w.heap.size + 2) 205 ii (.agg #[.int .i64 0, .int .i64 0]) 2 16 Tryz.underlying202 hi hz0 hz1 hz2 rfl (by decide) (.slice aoq q.length capq) q.length _ rfl ((Hq4.u.alloc _).alloc _) ⟨w4.heap.size + 1, 0, none⟩ 1 1 [.int .i64 z, .int .i64 da] rfl rfl (cell_two_new' _ _ (by simp) _ _ _) (fun x hx => by simp at hx; rcases hx with rfl | rfl <;> rfl) (by unfold maxLen; omega) (by omega) (by simp; omega) ?_; intro vq' w5 hown5 hgr5 _; obtain ⟨gf, cf, rfl, hgf, hgf'⟩ := oSome hown5 (Nat.succ_pos _)))
    have hb5 : Below w.heap.size w w5 := ((Hb4.u.alloc (by omega) _).alloc (by simp; omega) _).grown hgr5 (by simp; omega) (fun g hg => by have := (Hq4.u.lt g hg).1; omega)
    have hr5 := ((HR4.u.alloc (.cells #[.int .i64 z, .int .i64 da] 205)).alloc (.cells #[.int .i64 z, .int .i64 da] 205)).grown hgr5 (fun e => by have := (Hq4.u.lt _ e.symm).1; omega)
    have Hl5 := hI (Hnew.u Hok4.u hown5 hb5 hr5)
    have hsz5 := hgr5.size
    simp at hsz5
    clear hown5 hgr5 hb5 hr5
    go_wp2_with fail
    go_roundg (ps.length - (j + 1))
    case measure => omega
    case rel => exact ⟨j + 1, q ++ [(da, db)], by omega, rfl, by go_num, by simp; omega, by omega, Hl5.u⟩
   | false =>
    have Hoo := hI ho
    by_cases h126 : s = 126
    ·subst h126
     have h1 := Hl.u.one Hpj.u Hoo.u rfl
     obtain ⟨qq, x, rfl⟩ := snocG1 q h1
     obtain ⟨xa, xb⟩ := x
     have hlen : (qq ++ [(xa, xb)]).length = qq.length + 1 := by simp
     simp only [hlen] at Hq3 hq Hl ⊢
     obtain ⟨gp, _, e1, hgp, hgp'⟩ := oSome Hq3.u (by omega)
     simp only [Value.slice.injEq, true_and] at e1
     obtain ⟨rfl, rfl⟩ := e1
     have Hcell : Hid (∀ wx : World, wx.ownsRow (w.heap.size + 2) 205 2 (.slice (some ⟨gp, 0, none⟩) (qq.length + 1) capq) (qq.length + 1) (cellsG (qq ++ [(xa, xb)])) → wx.cell? ⟨gp, qq.length * 2, none⟩ = some (.int .i64 (gst xb)) ∧ wx.cell? ⟨gp, qq.length * 2 + 1, none⟩ = some (.int .i64 xa)) := fun wx hw =>
      ⟨oCell hw (j := qq.length * 2) (u := .int .i64 (gst xb)) (by rw [cellsG_append, List.getElem?_append_right (by rw [cellsG_length]; omega), cellsG_length]; simp [cellsG]), oCell hw (j := qq.length * 2 + 1) (u := .int .i64 xa) (by rw [cellsG_append, List.getElem?_append_right (by rw [cellsG_length]; omega), cellsG_length]; simp [cellsG])⟩
     obtain ⟨p1, p2⟩ := Hcell.u w3 Hq3.u
     have Hopp := hI (fun wx : World => opp_any (xa, xb) wx (Hl.u.ok _ (by simp)))
     have Hnew : Hid (∀ {w' : World}, w'.ownsRow (w.heap.size + 2) 205 2 (.slice (some ⟨gp, 0, none⟩) (qq.length + 1) capq) (qq.length + 1) (cellsG (qq ++ [don 45 (0, 0) (xa, xb)])) → Below w.heap.size w w' → Blk w' (w.heap.size + 1) #[.int .i64 0, .int .i64 0] 205 → GLoop w w' E ps c (j + 1) (qq ++ [don 45 (0, 0) (xa, xb)]) (.slice (some ⟨gp, 0, none⟩) (qq.length + 1) capq)) := fun h2 h3 h4 => Hl.u.neg Hpj.u Hoo.u rfl h2 h3 h4
     obtain ⟨d, hd⟩ : ∃ d, don 45 (0, 0) (xa, xb) = d := ⟨_, rfl⟩
     rw [hd] at Hopp Hnew
     obtain ⟨da, db⟩ := d
     unfold gV at Hopp
     simp only at Hopp
     obtain ⟨z, hz⟩ : ∃ z, gst db = z := ⟨_, rfl⟩
     obtain ⟨zx, hzx⟩ : ∃ zx, gst xb = zx := ⟨_, rfl⟩
     rw [hz, hzx] at Hopp
     rw [hzx] at p1 Hcell
     have Hz := hI hz
     clear hlen h1 hd hz hzx
     go_wp2_with fail
     refine (Hopp.u _).mono ?_
     rintro e w4 ⟨rfl, hb4⟩
     have Hq4 := hI (oBelow Hq3.u hb4)
     have Hb4 := hI (Hb3.u.then' (by omega) hb4)
     have HR4 := hI (HR3.u.kept hb4)
     have hb4s := hb4.size
     have z0 := oFrozen Hq4.u (qq.length * 2)
     have z1 := oFrozen Hq4.u (qq.length * 2 + 1)
     have hown5 := own_lastG Hq4.u (da, db)
     simp only [Hz.u] at hown5
     have Hl5 := hI (Hnew.u hown5 ((Hb4.u.setCell (by show w.heap.size ≤ gp; omega) _).setCell (by show w.heap.size ≤ gp; omega) _) ((HR4.u.setOther _ _ (by show w.heap.size + 1 ≠ gp; omega)).setOther _ _ (by show w.heap.size + 1 ≠ gp; omega)))
     obtain ⟨r1, r2⟩ := Hcell.u w4 Hq4.u
     clear hb4 p1 p2 hown5 Hcell Hnew
     go_wp2_with fail
     go_roundg (ps.length - (j + 1))
     case measure => omega
     case rel => exact ⟨j + 1, qq ++ [(da, db)], by omega, rfl, by go_num, by simp; omega, by simp [World.setCell]; omega, Hl5.u⟩
    ·have n126 : (s == 126) = false := by simpa using h126
     have h2 := Hl.u.two Hpj.u Hoo.u h126
     obtain ⟨qq, x, y, rfl⟩ := snocG2 q h2
     obtain ⟨xa, xb⟩ := x
     obtain ⟨ya, yb⟩ := y
     have hlen : (qq ++ [(xa, xb), (ya, yb)]).length = qq.length + 2 := by simp
     simp only [hlen] at Hq3 hq Hl ⊢
     obtain ⟨gp, _, e1, hgp, hgp'⟩ := oSome Hq3.u (by omega)
     simp only [Value.slice.injEq, true_and] at e1
     obtain ⟨rfl, rfl⟩ := e1
     have Hcell : Hid (∀ wx : World, wx.ownsRow (w.heap.size + 2) 205 2 (.slice (some ⟨gp, 0, none⟩) (qq.length + 2) capq) (qq.length + 2) (cellsG (qq ++ [(xa, xb), (ya, yb)])) → wx.cell? ⟨gp, qq.length * 2, none⟩ = some (.int .i64 (gst xb)) ∧ wx.cell? ⟨gp, qq.length * 2 + 1, none⟩ = some (.int .i64 xa) ∧ wx.cell? ⟨gp, (qq.length + 1) * 2, none⟩ = some (.int .i64 (gst yb)) ∧ wx.cell? ⟨gp, (qq.length + 1) * 2 + 1, none⟩ = some (.int .i64 ya)) := by
      intro wx hw
      have hcc : ∀ (k : Nat) (v : Value), [Value.int .i64 (gst xb), .int .i64 xa, .int .i64 (gst yb), .int .i64 ya][k]? = some v → (cellsG (qq ++ [(xa, xb), (ya, yb)]))[qq.length * 2 + k]? = some v := by
       intro k v hk
       rw [cellsG_append, List.getElem?_append_right (by rw [cellsG_length]; omega), cellsG_length, show qq.length * 2 + k - qq.length * 2 = k by omega]
       exact hk
      exact ⟨oCell hw (j := qq.length * 2) (hcc 0 _ rfl), oCell hw (j := qq.length * 2 + 1) (hcc 1 _ rfl), oCell hw (j := (qq.length + 1) * 2) (by rw [show (qq.length + 1) * 2 = qq.length * 2 + 2 by omega]; exact hcc 2 _ rfl), oCell hw (j := (qq.length + 1) * 2 + 1) (by rw [show (qq.length + 1) * 2 + 1 = qq.length * 2 + 3 by omega]; exact hcc 3 _ rfl)⟩
     have Hjn := hI (fun wx : World => join_any s (xa, xb) (ya, yb) wx (Hl.u.ok _ (by simp)) (Hl.u.ok _ (by simp)))
     have Hnew : Hid (∀ {w' : World}, w'.ownsRow (w.heap.size + 2) 205 2 (.slice (some ⟨gp, 0, none⟩) (qq.length + 1) capq) (qq.length + 1) (cellsG (qq ++ [don s (xa, xb) (ya, yb)])) → Below w.heap.size w w' → Blk w' (w.heap.size + 1) #[.int .i64 0, .int .i64 0] 205 → GLoop w w' E ps c (j + 1) (qq ++ [don s (xa, xb) (ya, yb)]) (.slice (some ⟨gp, 0, none⟩) (qq.length + 1) capq)) := fun h2 h3 h4 => Hl.u.join Hpj.u Hoo.u h126 h2 h3 h4
     obtain ⟨d, hd⟩ : ∃ d, don s (xa, xb) (ya, yb) = d := ⟨_, rfl⟩
     rw [hd] at Hjn Hnew
     obtain ⟨da, db⟩ := d
     unfold gV at Hjn
     simp only at Hjn
     obtain ⟨z, hz⟩ : ∃ z, gst db = z := ⟨_, rfl⟩
     obtain ⟨zx, hzx⟩ : ∃ zx, gst xb = zx := ⟨_, rfl⟩
     obtain ⟨zy, hzy⟩ : ∃ zy, gst yb = zy := ⟨_, rfl⟩
     rw [hz, hzx, hzy] at Hjn
     rw [hzx, hzy] at Hcell
     have Hz := hI hz
     obtain ⟨p1, p2, p3, p4⟩ := Hcell.u w3 Hq3.u
     have e2 : (qq.length : Int) + 2 - 1 = (qq.length : Int) + 1 := by omega
     have e3 : (qq.length : Int) + 2 - 2 = (qq.length : Int) := by omega
     have wq0 : IntKind.i64.wrap (qq.length : Int) = qq.length := by rw [IntKind.wrap_i64]; omega
     have wq1 : IntKind.i64.wrap ((qq.length : Int) + 1) = (qq.length : Int) + 1 := by rw [IntKind.wrap_i64]; omega
     have tq1 : ((qq.length : Int) + 1).toNat = qq.length + 1 := by omega
     have tq0 : (qq.length : Int).toNat = qq.length := by omega
     have lq1 : (0 : Int) ≤ (qq.length : Int) + 1 := by omega
     have lq0 : (0 : Int) ≤ (qq.length : Int) := by omega
     have lq3 : (qq.length : Int) < (qq.length : Int) + 2 := by omega
     have lq2 : (qq.length : Int) + 1 < (qq.length : Int) + 2 := by omega
     have hlt1 : wr.heap.size < w3.heap.size := by omega
     have hlt2 : gp < w3.heap.size := by omega
     have hne1 : w3.heap.size ≠ wr.heap.size := by omega
     have hne2 : w3.heap.size ≠ gp := by omega
     have hcap : qq.length + 1 ≤ capq := by
      rcases Hq3.u.2 with ⟨h0, _⟩ | ⟨g', cap', cur, hv, _, _, hn, _⟩
      ·cases h0
      ·cases hv; omega
     clear hlen h126 h2 hd hz hzx hzy
     go_upto_region 12 with fail
     have HCA := hI (fun (w4 : World) => cutQA (w3 := w3) (w4 := w4) (a := .int .i64 z) (b := .int .i64 da) (a0 := .int .i64 0) (b0 := .int .i64 0) (T := 205))
     have HCB := hI (fun (w4 : World) => cutQB (w3 := w3) (w4 := w4) (a := .int .i64 z) (b := .int .i64 da) (T := 205))
     go_cut [12] (fun vj wx => ∃ g : Nat, vj = .pointer (some ⟨g, 0, none⟩) ∧ CutQ w3 wx g (.int .i64 z) (.int .i64 da) 205)
     case first =>
      have hcall := Hjn.u
      clear hq Hp Hn Hst Hl Hq3 Hb3 Hcell Hoo Hpj Hnew HR3 Hop HS Hmem d1 d2 Hjn
      go_region_held3 (fun w' => w'.cell? ⟨wr.heap.size, 0, none⟩ = some (.int .u8 s) ∧ w'.cell? ⟨gp, qq.length * 2, none⟩ = some (.int .i64 zx) ∧ w'.cell? ⟨gp, qq.length * 2 + 1, none⟩ = some (.int .i64 xa) ∧ w'.cell? ⟨gp, (qq.length + 1) * 2, none⟩ = some (.int .i64 zy) ∧ w'.cell? ⟨gp, (qq.length + 1) * 2 + 1, none⟩ = some (.int .i64 ya)) (first | go_keep | exact ⟨kept_cell' hb4 (by simp [*]), kept_cell' hb4 (by simp [*]), kept_cell' hb4 (by simp [*]), kept_cell' hb4 (by simp [*]), kept_cell' hb4 (by simp [*])⟩ | exact ⟨kept_al hb4 (by simp [*]), kept_al hb4 (by simp [*]), kept_al hb4 (by simp [*]), kept_al hb4 (by simp [*]), kept_al hb4 (by simp [*])⟩) (first | (go_at_call 178; refine (hcall _).mono ?_; rintro e w4 ⟨rfl, hb4⟩; have k0 := fun h => hb4.cell (p := ⟨w3.heap.size, 0, none⟩) h; have k1 := fun h => hb4.cell (p := ⟨w3.heap.size, 1, none⟩) h; have y0 := fun h => hb4.frozen (p := ⟨w3.heap.size, 0, none⟩) h; have y1 := fun h => hb4.frozen (p := ⟨w3.heap.size, 1, none⟩) h; simp at k0 k1 y0 y1))
      all_goals (try go_wp2_with fail)
      all_goals go_meet
      all_goals first
       | exact ⟨w3.heap.size, rfl, HCA.u w4 hb4⟩
       | exact ⟨w4.heap.size, rfl, HCB.u w4 hb4⟩
     case rest =>
      obtain ⟨g, rfl, hr⟩ := hcut
      have Hb5 := hI (Hb3.u.then' (by omega) hr.bel)
      have Hq5 := hI (oBelow Hq3.u hr.bel)
      have HR5 := hI (HR3.u.kept hr.bel)
      obtain ⟨m0, m1, _, _, lm⟩ := two_cells hr.blk
      have hszc := hr.bel.size
      have hown5 := own_lastG (own_lessG Hq5.u) (da, db)
      simp only [Hz.u] at hown5
      have Hl5 := hI (Hnew.u hown5 ((Hb5.u.setCell (by show w.heap.size ≤ gp; omega) _).setCell (by show w.heap.size ≤ gp; omega) _) ((HR5.u.setOther _ _ (by show w.heap.size + 1 ≠ gp; omega)).setOther _ _ (by show w.heap.size + 1 ≠ gp; omega)))
      have z0 := oFrozen Hq5.u (qq.length * 2)
      have z1 := oFrozen Hq5.u (qq.length * 2 + 1)
      obtain ⟨r1, r2, r3, r4⟩ := Hcell.u _ Hq5.u
      clear hr hown5 p1 p2 p3 p4 f0 f1 Hcell Hnew
      go_wp2_with fail
      go_roundg (ps.length - (j + 1))
      case measure => omega
      case rel => exact ⟨j + 1, qq ++ [(da, db)], by omega, rfl, by go_num, by simp; omega, by simp [World.setCell]; omega, Hl5.u⟩
  ·obtain rfl := Hl.u.done (by omega)
   obtain ⟨g, _, e1, hg, hg'⟩ := oSome Hl.u.own (by simp)
   simp only [Value.slice.injEq, true_and] at e1
   obtain ⟨rfl, rfl⟩ := e1
   have c0 := oCell Hl.u.own (j := 0) rfl
   have c1 := oCell Hl.u.own (j := 1) rfl
   obtain ⟨r0, r1, z0, z1, lr⟩ := two_cells Hl.u.res
   have Hok := hI (Hl.u.ok c (by simp))
   obtain ⟨da, db⟩ := c
   simp only at c0 c1
   obtain ⟨z, hz⟩ : ∃ z, gst db = z := ⟨_, rfl⟩
   rw [hz] at c0
   have Hz := hI hz
   clear hz
   go_wp2_with fail
   refine bodyPost_ret (v := .agg #[.int .i64 z, .int .i64 da]) (by simp [results, Tryz.results133, go_sem, r0, r1]) rfl ⟨?_, Hok.u, ?_⟩
   ·unfold gV; rw [Hz.u]
   ·exact (Hl.u.bel.setCell (by simp) _).setCell (by simp) _
theorem info_gcells : (Tryz.prog.info? 202).map (fun i => (i.zero, i.size, i.bytes)) = some (some (.slice none 0 0), 1, 24) := by kernel_rfl
theorem GCells.snoc {W w5 : World} {B : Nat} {vc vc' v2 : Value} {vs : List Value} {cells : List (List Cl)} {row : List Cl} (h : GCells W B vc vs cells) (o : Obj)
  (hv : W.ownsRow B 205 2 v2 row.length (cellsG row)) (hown : w5.ownsRow B 202 1 vc' (vs.length + 1) (vs ++ [v2])) (hgr : (W.alloc o).grownBy w5 vc.ownBlock) : GCells w5 B vc' (vs ++ [v2]) (cells ++ [row]) := by
 refine ⟨by simpa using hown, by simp [h.len], ?_⟩
 intro i v c h1 h2
 by_cases hi : i < vs.length
 ·rw [List.getElem?_append_left hi] at h1
  rw [List.getElem?_append_left (by rw [← h.len]; exact hi)] at h2
  exact ((h.row i v c h1 h2).alloc o).kept hgr (own_apart' (h.row i v c h1 h2) h.own (by decide))
 ·rw [List.getElem?_append_right (by omega)] at h1
  rw [List.getElem?_append_right (by rw [← h.len]; omega)] at h2
  rw [← h.len] at h2
  match hk : i - vs.length, h1, h2 with
  | 0, h1, h2 =>
   simp at h1 h2
   subst h1 h2
   exact (hv.alloc o).kept hgr (own_apart' hv h.own (by decide))
  | k + 1, h1, h2 => simp at h1
theorem GCells.set {W : World} {B : Nat} {vc : Value} {vs : List Value} {cells : List (List Cl)} (h : GCells W B vc vs cells) {a : Addr} (ha : a.block < B) (u : Value) : GCells (W.setCell a u) B vc vs cells :=
 ⟨ownsRow_setCell_below h.own ha u, h.len, fun i v c h1 h2 => ownsRow_setCell_below (h.row i v c h1 h2) ha u⟩
structure ShtIn (w : World) (q B : Nat) (b : Bk) (pd : List (List UInt8 × List UInt8)) (cells : List (List Cl)) (p : Nat) (vp vc : Value) (vs : List Value) : Prop extends ShtAt w q b pd cells p vp vc vs where
 lo : B ≤ q
 sub : ∀ w', Below B w w' → (∃ Bl, Led w' Bl p b) ∧ ∃ Bp, w'.ownsRow Bp 177 2 vp pd.length (cellsD pd)
theorem ShtIn.kept {w w' : World} {q B : Nat} {b : Bk} {pd : List (List UInt8 × List UInt8)} {cells : List (List Cl)} {p : Nat} {vp vc : Value} {vs : List Value} (h : ShtIn w q B b pd cells p vp vc vs) (hb : Below w.heap.size w w') (hB : B ≤ w.heap.size) : ShtIn w' q B b pd cells p vp vc vs :=
 ⟨h.toShtAt.kept hb, h.lo, fun w2 h2 => h.sub w2 ((hb.mono hB).trans h2)⟩
theorem ShtIn.push {w wr w5 : World} {q B : Nat} {b : Bk} {pd : List (List UInt8 × List UInt8)} {cells : List (List Cl)} {p : Nat} {vp vc vc' v2 : Value} {vs : List Value} {row : List Cl} {o : Obj} (h : ShtIn w q B b pd cells p vp vc vs) (hbr : Below w.heap.size w wr) (hB : B ≤ w.heap.size)
  (hv : wr.ownsRow w.heap.size 205 2 v2 row.length (cellsG row)) (hown : w5.ownsRow (q + 1) 202 1 vc' (vs.length + 1) (vs ++ [v2])) (hgr : (wr.alloc o).grownBy w5 vc.ownBlock) (hw : row.length = pd.length) (h8 : cells.length < 8) (hok : ∀ c ∈ row, ClOk c) :
  ShtIn (w5.setCell ⟨q, 2, none⟩ vc') q B b pd (cells ++ [row]) p vp vc' (vs ++ [v2]) ∧ Below B w (w5.setCell ⟨q, 2, none⟩ vc') := by
 have hql := h.blk.lt
 have hr := h.toShtAt.kept hbr
 have hsz := hbr.size
 have hbel : Below B w (w5.setCell ⟨q, 2, none⟩ vc') := by
  refine Below.setCell ?_ h.lo _
  exact ((hbr.mono hB).alloc (by omega) o).grown hgr (by simp; omega) (fun g hg => by have := (hr.cs.own.lt g hg).1; have := h.lo; omega)
 have hs := h.sub _ hbel
 refine ⟨⟨⟨?_, hs.1, hs.2, ?_, ?_, ⟨h.few.1, by simp; omega⟩, ?_⟩, h.lo, fun w2 h2 => h.sub w2 (hbel.trans h2)⟩, hbel⟩
 ·have := ((hr.blk.alloc o).grown hgr (fun e => by have := (hr.cs.own.lt _ e.symm).1; omega)).set 2 vc'
  simpa using this
 ·exact (GCells.snoc hr.cs o (own_down hv (by omega)) hown hgr).set (by simp) _
 ·intro r hr'
  simp at hr'
  rcases hr' with hr' | rfl
  ·exact h.wid r hr'
  ·exact hw
 ·intro r hr'
  simp at hr'
  rcases hr' with hr' | rfl
  ·exact h.ok r hr'
  ·exact hok
theorem sLay_any (q B : Nat) (b : Bk) (pd : List (List UInt8 × List UInt8)) (cells : List (List Cl)) (p : Nat) (vp vc : Value) (vs : List Value) (vr : Value) (ps : List Pt) (Bp : Nat) (w : World) (h : ShtIn w q B b pd cells p vp vc vs) (hB : B ≤ w.heap.size) (hp : w.ownsRow Bp 197 2 vr ps.length (cellsP ps)) (hpl : ps.length ≤ 200)
  (h8 : cells.length < 8) (hwf : ∃ n e, Wf n e ps) (hn : ∀ p ∈ ps, PtOk cells.length p) :
  Calls Tryz.prog 97 #[.pointer (some ⟨q, 0, none⟩), .agg #[vr]] w fun e w' => e = .returned (.tuple #[]) ∧ (∃ vc' vs', ShtIn w' q B b pd (cells ++ [rowP b (pdv pd) cells ps pd.length]) p vp vc' vs') ∧ Below B w w' := by
 obtain ⟨i1, hi1, hz10, hz11, hz12⟩ := info_parts info_gcell
 obtain ⟨i2, hi2, hz20, hz21, hz22⟩ := info_parts info_gcells
 obtain ⟨aor, capr, rfl⟩ := oForm hp
 obtain ⟨Bv, hper⟩ := h.per
 obtain ⟨aop, capp, rfl⟩ := oForm hper
 obtain ⟨W, hW, B1, hbW, hWs⟩ := one_new w #[.slice aor ps.length capr] 165
 have hW0 := B1.cell 0
 simp only [List.getElem?_toArray, List.getElem?_cons_zero] at hW0
 have HB1 := hI B1
 have HbW := hI hbW
 have HS := hI (h.kept hbW hB)
 obtain ⟨c0, c1, c2⟩ := three_cells HS.u.blk
 have hql := HS.u.blk.lt
 have hq0 := h.blk.lt
 have hk4 := h.few.1
 have Hp := hI (oBelow hp hbW)
 have Hwk : Hid (∀ (k : Nat) (wx : World), k < pd.length → Below W.heap.size W wx → Calls Tryz.prog 133 #[.pointer (some ⟨q, 0, none⟩), .agg #[.slice aor ps.length capr], .int .i64 (k : Int)] wx fun e w' => ∃ c : Cl, e = .returned (gV c) ∧ c = cel (opE b (pdv pd) cells k) ps ∧ ClOk c ∧ Below wx.heap.size wx w') := by
  intro k wx hk hb
  obtain ⟨n, e, hwf⟩ := hwf
  refine (sWork_any q k b pd cells _ ps Bp _ wx ⟨_, _, _, _, HS.u.toShtAt.kept hb⟩ (oBelow Hp.u hb) hpl hk (val_cel hwf) hn).mono ?_
  rintro e w1 ⟨rfl, hok, hb⟩
  exact ⟨_, rfl, rfl, hok, hb⟩
 obtain ⟨aoc, capc, rfl⟩ := oForm h.cs.own
 have hv8 : vs.length < 8 := by rw [h.cs.len]; exact h8
 have HB' := hI hB
 clear B1 hbW h hper hwf hn hp
 go_enter Tryz.func97, Tryz.ntmps97
 go_wp2_with fail
 try rw [hW]
 go_loopg [4, 12] pd.length (fun m v i wx => ∃ k : Nat, k ≤ pd.length ∧ m = pd.length - k ∧ i = .int .i64 k ∧ Hid (wx.ownsRow W.heap.size 205 2 v k (cellsG (rowP b (pdv pd) cells ps k))) ∧ Hid (∀ c ∈ rowP b (pdv pd) cells ps k, ClOk c) ∧ Hid (Below W.heap.size W wx))
 case atStart => exact ⟨0, by omega, rfl, rfl, World.ownsRow_nil _ _ _ _, (fun c hc => by simp [rowP] at hc), Below.refl _ _⟩
 case round =>
  obtain ⟨k, hk, rfl, rfl, Hrw, Hok, Hbx⟩ := hrel
  obtain ⟨aov, capv, hvv⟩ := oForm Hrw.u
  subst hvv
  have hszx := Hbx.u.size
  have w0 := kept_cell' Hbx.u hW0
  have c2' := kept_cell' Hbx.u c2
  have HSx := hI (HS.u.toShtAt.kept Hbx.u)
  have z2 := HSx.u.blk.frozen 2
  have lqx := HSx.u.blk.lt
  by_cases hlk : k < pd.length
  ·go_wp2_with fail
   refine (Hwk.u k _ hlk Hbx.u).mono ?_
   rintro e w2 ⟨c, rfl, hc, hok, hb2⟩
   have Hc := hI hc
   have Hok2 := hI hok
   have Hrw2 := hI (oBelow Hrw.u hb2)
   have Hb2 := hI (Hbx.u.then' hszx hb2)
   have hsz2 := hb2.size
   obtain ⟨ca, cb⟩ := c
   unfold gV
   simp only
   obtain ⟨z, hz⟩ : ∃ z, gst cb = z := ⟨_, rfl⟩
   rw [hz]
   have Hz := hI hz
   clear hb2 hok hc hz
   go_wp2_with (first
    | (at_builtin; refine wpList_append_own _ rfl (.tmp 19) (.tmp 21) 202 rfl W.heap.size 205 i1 (.agg #[.int .i64 0, .int .i64 0]) 2 16 Tryz.underlying202 hi1 hz10 hz11 hz12 rfl (by decide) (.slice aov k capv) k _ rfl ((Hrw2.u.alloc _).alloc _) ⟨w2.heap.size + 1, 0, none⟩ 1 1 [.int .i64 z, .int .i64 ca] rfl rfl (cell_two_new' _ _ (by simp) _ _ _) (fun x hx => by simp at hx; rcases hx with rfl | rfl <;> rfl) (by unfold maxLen; omega) (by omega) (by simp; omega) ?_; intro vq' w5 hown5 hgr5 _))
   have Hrw5 : Hid (w5.ownsRow W.heap.size 205 2 vq' (k + 1) (cellsG (rowP b (pdv pd) cells ps (k + 1)))) := by
    show World.ownsRow _ _ _ _ _ _ _
    rw [rowP_snoc, ← Hc.u, cellsG_snoc]
    simp only [Hz.u]
    exact hown5
   have Hok5 : Hid (∀ c ∈ rowP b (pdv pd) cells ps (k + 1), ClOk c) := by
    intro c hc
    rw [rowP_snoc, ← Hc.u] at hc
    simp at hc
    rcases hc with hc | rfl
    ·exact Hok.u c hc
    ·exact Hok2.u
   have Hb5 : Hid (Below W.heap.size W w5) := ((Hb2.u.alloc (by omega) _).alloc (by simp; omega) _).grown hgr5 (by simp; omega) (fun g hg => (Hrw2.u.lt g hg).1)
   clear hown5 hgr5
   go_wp2_with fail
   go_roundg (pd.length - (k + 1))
   case measure => omega
   case rel => exact ⟨k + 1, by omega, rfl, by go_num, Hrw5.u, Hok5.u, Hb5.u⟩
  ·obtain rfl : k = pd.length := by omega
   have hwl := rowP_len b (pdv pd) cells ps pd.length
   go_wp2_with (first
    | (at_builtin; refine wpList_append_own _ rfl (.tmp 28) (.tmp 30) 160 rfl (q + 1) 202 i2 (.slice none 0 0) 1 24 Tryz.underlying160 hi2 hz20 hz21 hz22 rfl (by decide) (.slice aoc vs.length capc) vs.length _ rfl (HSx.u.cs.own.alloc _) ⟨wr.heap.size, 0, none⟩ 1 1 [.slice aov pd.length capv] rfl rfl (cell_one_new _ _ _) (fun x hx => by simp at hx; subst hx; rfl) (by unfold maxLen; omega) (by omega) (by simp; omega) ?_; intro vq' w5 hown5 hgr5 _; obtain ⟨gf, cf, rfl, hgf, hgf'⟩ := oSome hown5 (Nat.succ_pos _); have hbk := (HSx.u.blk.alloc (.cells #[.slice aov pd.length capv] 202)).grown hgr5 (fun e => by have := (HSx.u.cs.own.lt _ e.symm).1; omega); have y4 := (three_cells hbk).2.2; have yz := hbk.frozen 2; have yl := hbk.lt; clear hbk))
   have hpush := HS.u.push Hbx.u (by have := HB'.u; omega) (row := rowP b (pdv pd) cells ps pd.length) (by rw [hwl]; exact Hrw.u) hown5 hgr5 hwl h8 Hok.u
   have HF := hI hpush.1
   have HFb := hI ((HbW.u.mono HB'.u).trans hpush.2)
   clear hown5 hgr5 hpush
   go_wp2_with fail
   go_end0
   exact ⟨rfl, ⟨_, _, HF.u⟩, HFb.u⟩
theorem wrongKind_any (vr : Value) (vs : List Value) (pss : List (List Pt)) (B : Nat) (w : World) (h : RowsAt w B vr vs pss) (hrow : ∀ (i : Nat) ps, pss[i]? = some ps → (∃ n e, Wf n e ps) ∧ ∀ p ∈ ps, 0 ≤ p.2) (hbn : badN 0 pss < 0) (hvl : vs.length ≤ 200) :
   Calls Tryz.prog 95 #[vr] w fun e w' => e = .returned (.int .i64 (orLen (badK 0 [] pss) pss.length)) ∧ Below w.heap.size w w' := by
 obtain ⟨ii, hi, hz0, hz1, hz2⟩ := info_parts info_kind
 have Hlen := hI h.len
 obtain ⟨ao, cap, rfl⟩ := oForm h.own
 have H := hI h
 have Hrow := hI hrow
 have Hbn := hI hbn
 clear h hrow hbn
 go_enter Tryz.func95, Tryz.ntmps95
 go_wp2_with fail
 go_loopw [3, 10] (fun vk i wr => ∃ k : Nat, ∃ ks : List Int, k ≤ vs.length ∧ i = .int .i64 k ∧ ks.length = k ∧ Hid (∀ x ∈ ks, x = 0 ∨ x = 1) ∧ Hid (badK k (ks.map toR) (pss.drop k) = badK 0 [] pss) ∧
     Hid (wr.ownsRow w.heap.size 199 1 vk ks.length (ks.map (.int .i64))) ∧ Hid (Below w.heap.size w wr)) (fun _ i _ => vs.length - (intOf i).toNat)
 case atStart => exact ⟨0, [], by omega, rfl, rfl, by simp [Hid], rfl, World.ownsRow_nil _ _ _ _, Below.refl _ _⟩
 case round =>
   obtain ⟨k, ks, hk, rfl, hkl, Hkb, Hp, Ho, Hb⟩ := hrel
   obtain ⟨aok, capk, hvk⟩ := oForm Ho.u
   subst hvk
   subst hkl
   have hsz := Hb.u.size
   by_cases hlt : ks.length < vs.length
   · obtain ⟨vk, hvk⟩ : ∃ vk, vs[ks.length]? = some vk := ⟨vs[ks.length], List.getElem?_eq_getElem hlt⟩
     obtain ⟨pk, hpk⟩ : ∃ pk, pss[ks.length]? = some pk := ⟨pss[ks.length]'(by rw [← Hlen.u]; exact hlt), List.getElem?_eq_getElem _⟩
     have Hst := hI (badK_step (ks.map toR) hpk)
     have hrk := H.u.row ks.length vk pk hvk hpk
     obtain ⟨aop, capp, rfl⟩ := oForm hrk
     obtain ⟨g, _, e1, hg, hg'⟩ := oSome H.u.own (by omega)
     simp only [Value.slice.injEq, true_and] at e1
     obtain ⟨rfl, rfl⟩ := e1
     have c1 := oCell (oBelow H.u.own Hb.u) (j := ks.length) hvk
     have Hrk := hI (oBelow hrk Hb.u)
     have hro := Hrow.u ks.length pk hpk
     obtain ⟨⟨nf, ef, hwf⟩, hpos⟩ := hro
     have hnm := badN_all pss 0 (by omega) Hbn.u ks.length pk hpk
     rw [Int.zero_add] at hnm
     have Hnm : Hid (∀ p ∈ pk, oldB p.1 = true → 0 ≤ p.2 ∧ p.2.toNat < ks.length) := fun p hp ho => ⟨hpos p hp, nameB_lt hnm hpos ks.length rfl p hp ho⟩
     have Hdp : Hid (dpt pk 0 = some 1) := by
       have := wf_dpt hwf [] 0
       rw [List.append_nil] at this
       exact this
     have Hke : Hid (∃ kk, kEval (ks.map toR) pk [] = [kk]) := by
       obtain ⟨kk, hkk⟩ := wf_kind (ks.map toR) hwf
       refine ⟨kk, ?_⟩
       have := hkk [] []
       rw [List.append_nil] at this
       exact this
     have Hbd := hI (H.u.bd pk (List.mem_of_getElem? hpk))
     clear hrk hvk hpk hwf hpos hnm
     go_wp2_with fail
     refine (rowKind_any _ _ pk ks 0 _ (by exact (oBase Hrk.u (fun _ _ => Nat.zero_le _)).alloc _) (by exact (oBase Ho.u (fun _ _ => Nat.zero_le _)).alloc _) Hkb.u Hnm.u Hdp.u Hke.u Hbd.u).mono ?_
     rintro e w3 ⟨kp, ok, rfl, hkp, hkind, hb3⟩
     have Hb3 : Hid (Below w.heap.size w w3) := (Hb.u.alloc hsz _).then' (by simp; omega) hb3
     have Ho3 := hI (oBelow (Ho.u.alloc _) hb3)
     have hs3 := hb3.size
     simp at hs3
     have Hkp := hI hkp
     have Hkind := hI hkind
     clear hb3 hkp hkind
     cases ok with
     | false =>
       have Hv : Hid (badK 0 [] pss = ks.length) := by
         show _ = _
         rw [← Hp.u, Hst.u, Hkind.u]; rfl
       go_wp2_with fail
       go_ret
       exact ⟨retI (by rw [Hv.u, orLen_pos (by omega)]), Hb3.u⟩
     | true =>
       have Hst2 : Hid (badK ks.length (ks.map toR) (pss.drop ks.length) = badK ((ks.length + 1 : Nat) : Int) ((ks ++ [kp]).map toR) (pss.drop (ks.length + 1))) := by
         show _ = _
         rw [Hst.u, Hkind.u]
         have : (toR kp == 0) = false := by rcases Hkp.u with h | h <;> subst h <;> rfl
         simp [this]
       go_wp2_with (first
         | (at_builtin; refine wpList_append_own _ rfl (.tmp 24) (.tmp 26) 198 rfl w.heap.size 199 ii (.int .i64 0) 1 8 Tryz.underlying198 hi hz0 hz1 hz2 rfl (by decide) (.slice aok ks.length capk) ks.length _ rfl (Ho3.u.alloc _) ⟨w3.heap.size, 0, none⟩ 1 1 [.int .i64 kp] rfl rfl (cell_one_new _ _ _) (fun x hx => by simp at hx; subst hx; rfl) (by unfold maxLen; omega) (by omega) (by simp; omega) ?_; intro vq' w5 hown5 hgr5 _))
       have hb5 : Below w.heap.size w w5 := (Hb3.u.alloc (by omega) _).grown hgr5 (by simp; omega) (fun g hg => (Ho3.u.lt g hg).1)
       have Hown5 := hI hown5
       have Hb5 := hI hb5
       clear hown5 hgr5 hb5
       go_wp2_with fail
       go_roundw
       case rel =>
         refine ⟨ks.length + 1, ks ++ [kp], by omega, by go_num, by simp, ?_, by show _ = _; rw [← Hp.u, Hst2.u], ?_, Hb5.u⟩
         · intro x hx
           simp at hx
           rcases hx with hx | rfl
           · exact Hkb.u x hx
           · exact Hkp.u
         · show World.ownsRow _ _ _ _ _ _ _
           simpa using Hown5.u
       case measure => simp [intOf]; omega
   · have Hv : Hid (badK 0 [] pss = -1) := by
       show _ = _
       rw [← Hp.u, List.drop_eq_nil_of_le (by rw [← Hlen.u]; omega)]; rfl
     go_wp2_with fail
     go_ret
     exact ⟨retI (by rw [Hv.u, orLen_neg (by omega), ← Hlen.u]), Hb.u⟩
end Go.Proofs.YtdchbenfccofpaaGreatDoor
namespace Db
theorem badP_lt (l : List (Int × Int)) : ∀ i : Int, 0 ≤ i → badP i l < i + l.length ∧ -1 ≤ badP i l := by
 induction l with
 | nil => intro i h; simp [badP]; omega
 | cons p r ih =>
  intro i h
  have := ih (i + 1) (by omega)
  unfold badP
  simp only [List.length_cons]
  split <;> omega
theorem badN_lt (l : List (List Pt)) : ∀ i : Int, 0 ≤ i → badN i l < i + l.length ∧ -1 ≤ badN i l := by
 induction l with
 | nil => intro i h; simp [badN]; omega
 | cons p r ih =>
  intro i h
  have := ih (i + 1) (by omega)
  unfold badN
  simp only [List.length_cons]
  split <;> omega
theorem badK_lt (l : List (List Pt)) : ∀ (i : Int) (ks : List Int), 0 ≤ i → badK i ks l < i + l.length ∧ -1 ≤ badK i ks l := by
 induction l with
 | nil => intro i ks h; simp [badK]; omega
 | cons p r ih =>
  intro i ks h
  have := ih (i + 1) (ks ++ [kindP ks p]) (by omega)
  unfold badK
  simp only [List.length_cons]
  split <;> omega
end Db
namespace Go.Proofs.YtdchbenfccofpaaGreatDoor
open Go.RowKit Db
theorem read_long (s : ByteArray) (w : World) (hs : 200 < s.size) (hm : s.size ≤ maxLen) :
  Calls Tryz.prog 57 #[.string s] w fun e w' => e = .returned (.tuple #[.agg #[.slice none 0 0, .slice none 0 0], .int .i64 1, .int .i64 0]) ∧ Below w.heap.size w w' := by
 unfold maxLen at hm
 go_enter Tryz.func57, Tryz.ntmps57
 go_wp2_with fail
 refine bodyPost_ret (v := .tuple #[.agg #[.slice none 0 0, .slice none 0 0], .int .i64 1, .int .i64 0]) (by simp [results, Tryz.results57, go_sem]) rfl ⟨rfl, ?_⟩
 exact (Below.refl _ _).alloc (Nat.le_refl _) _
def RepR (w : World) (s : ByteArray) (e : Ending) (w' : World) : Prop := Below w.heap.size w w' ∧
 ((∃ p : Int, e = .returned (.tuple #[.agg #[.slice none 0 0, .slice none 0 0], .int .i64 2, .int .i64 p]) ∧ plc 0 0 0 0 (L s) = p ∧ 0 ≤ p) ∨
  (∃ vp vr pd rows pss er pl, e = .returned (.tuple #[.agg #[vp, vr], .int .i64 er, .int .i64 pl]) ∧ Db.Form (L s) pd rows pss ∧ outc (pdv pd) pss = (er, pl) ∧
    (¬ er = 0 → vp = .slice none 0 0 ∧ vr = .slice none 0 0) ∧
    (er = 0 → w'.ownsRow w.heap.size 177 2 vp pd.length (cellsD pd) ∧ ∃ vs, RowsAt w' w.heap.size vr vs pss)))
theorem read_short (s : ByteArray) (w : World) (hs : s.size ≤ 200) :
   Calls Tryz.prog 57 #[.string s] w fun e w' => RepR w s e w' := by
 have d200 : decide ((200 : Int) < (s.size : Int)) = false := by simp; omega
 go_enter Tryz.func57, Tryz.ntmps57
 go_wp2_with fail
 refine (readForm_any s _ hs).mono ?_
 rintro e w1 (⟨p, rfl, hp, hp0, hb1⟩ | ⟨vp, vr, pd, rows, pss, vs, rfl, hform, hvp, hvr, hb1⟩)
 · have HB1 : Hid (Blk w1 w.heap.size #[.slice none 0 0, .slice none 0 0] 110) := (Blk.new _ _ _).kept hb1
   have Hb1 : Hid (Below w.heap.size w w1) := ((Below.refl _ _).alloc (Nat.le_refl _) _).then' (by simp) hb1
   have hs1 := hb1.size
   simp at hs1
   have Hp := hI hp
   have c0 := HB1.u.cell 0
   have c1 := HB1.u.cell 1
   have z0 := HB1.u.frozen 0
   have z1 := HB1.u.frozen 1
   have hl1 := HB1.u.lt
   simp only [List.getElem?_toArray, List.getElem?_cons_zero, List.getElem?_cons_succ] at c0 c1
   clear hp hb1
   go_wp2_with fail
   refine bodyPost_ret (v := .tuple #[.agg #[.slice none 0 0, .slice none 0 0], .int .i64 2, .int .i64 p]) (by simp [results, Tryz.results57, go_sem, c0, c1, hl1]) rfl ⟨?_, .inl ⟨p, rfl, Hp.u, hp0⟩⟩
   (repeat (first | refine Below.setCell ?_ (by simp) _ | refine Below.alloc ?_ (by first | omega | (simp [World.setCell]; omega)) _ | exact Hb1.u))
 · have HB1 : Hid (Blk w1 w.heap.size #[.slice none 0 0, .slice none 0 0] 110) := (Blk.new _ _ _).kept hb1
   have Hb1 : Hid (Below w.heap.size w w1) := ((Below.refl _ _).alloc (Nat.le_refl _) _).then' (by simp) hb1
   have hs1 := hb1.size
   simp at hs1
   have Hform := hI hform
   obtain ⟨aop, capp, rfl⟩ := oForm hvp
   obtain ⟨aor, capr, rfl⟩ := oForm hvr.own
   have Hvp := hI hvp
   have Hvr := hI hvr
   have hpm := oLen hvp
   have hrm := oLen hvr.own
   have Hrl := hI hvr.len
   unfold maxLen at hpm hrm
   clear hb1 hform hvp hvr
   have HBr := hI (Blk.new w1 #[.slice aop pd.length capp, .slice aor vs.length capr] 110)
   have HB2 := hI (HB1.u.alloc (.cells #[.slice aop pd.length capp, .slice aor vs.length capr] 110))
   have Hb2 := hI (Hb1.u.alloc (by omega) (.cells #[.slice aop pd.length capp, .slice aor vs.length capr] 110))
   have c0 := HB1.u.cell 0
   have c1 := HB1.u.cell 1
   have z0 := HB1.u.frozen 0
   have z1 := HB1.u.frozen 1
   have hl1 := HB1.u.lt
   simp only [List.getElem?_toArray, List.getElem?_cons_zero, List.getElem?_cons_succ] at c0 c1
   by_cases h4 : 4 < pd.length
   · have Ho : Hid (outc (pdv pd) pss = (3, 0)) := by show _ = _; unfold outc; rw [if_pos (.inl (by simpa [pdv] using h4))]
     have d4 : decide ((4 : Int) < (pd.length : Int)) = true := by simp; omega
     go_wp2_with fail
     refine bodyPost_ret (v := .tuple #[.agg #[.slice none 0 0, .slice none 0 0], .int .i64 3, .int .i64 0]) (by simp [results, Tryz.results57, go_sem, c0, c1, hl1]) rfl ⟨?_, .inr ⟨_, _, pd, rows, pss, 3, 0, rfl, Hform.u, Ho.u, fun _ => ⟨rfl, rfl⟩, fun h => by omega⟩⟩
     (repeat (first | refine Below.setCell ?_ (by simp) _ | refine Below.alloc ?_ (by first | omega | (simp [World.setCell]; omega)) _ | exact Hb1.u))
   have d4 : decide ((4 : Int) < (pd.length : Int)) = false := by simp; omega
   by_cases h8 : 8 < vs.length
   · have Ho : Hid (outc (pdv pd) pss = (3, 0)) := by show _ = _; unfold outc; rw [if_pos (.inr (by rw [← Hrl.u]; exact h8))]
     have d8 : decide ((8 : Int) < (vs.length : Int)) = true := by simp; omega
     go_wp2_with fail
     refine bodyPost_ret (v := .tuple #[.agg #[.slice none 0 0, .slice none 0 0], .int .i64 3, .int .i64 0]) (by simp [results, Tryz.results57, go_sem, c0, c1, hl1]) rfl ⟨?_, .inr ⟨_, _, pd, rows, pss, 3, 0, rfl, Hform.u, Ho.u, fun _ => ⟨rfl, rfl⟩, fun h => by omega⟩⟩
     (repeat (first | refine Below.setCell ?_ (by simp) _ | refine Below.alloc ?_ (by first | omega | (simp [World.setCell]; omega)) _ | exact Hb1.u))
   have d8 : decide ((8 : Int) < (vs.length : Int)) = false := by simp; omega
   have Hsm : Hid (¬ (4 < (pdv pd).length ∨ 8 < pss.length)) := by show ¬ _; rw [← Hrl.u]; simp [pdv]; omega
   clear c0 c1 z0 z1
   go_wp2_with fail
   refine (wrongPeriod_any _ pd 0 _ (by exact (oBase Hvp.u (fun _ _ => Nat.zero_le _)).alloc _)).mono ?_
   rintro e w3 ⟨rfl, hb3⟩
   have Hvp2 := hI (Hvp.u.alloc (.cells #[.slice aop pd.length capp, .slice aor vs.length capr] 110))
   have Hvr2 := hI (Hvr.u.kept ((Below.refl _ _).alloc (Nat.le_refl _) (.cells #[.slice aop pd.length capp, .slice aor vs.length capr] 110)))
   have HBr2 := HBr
   have HBr3 := hI (HBr2.u.kept hb3)
   have HB3 := hI (HB2.u.kept hb3)
   have Hb3 := hI (Hb2.u.then' Hb2.u.size hb3)
   have Hvp3 := hI (oBelow Hvp2.u hb3)
   have Hvr3 := hI (Hvr2.u.kept hb3)
   have r0 := HBr3.u.cell 0
   have r1 := HBr3.u.cell 1
   have c0 := HB3.u.cell 0
   have c1 := HB3.u.cell 1
   have z0 := HB3.u.frozen 0
   have z1 := HB3.u.frozen 1
   simp only [List.getElem?_toArray, List.getElem?_cons_zero, List.getElem?_cons_succ] at r0 r1 c0 c1
   clear hb3
   obtain ⟨b4, hb4⟩ : ∃ b4, badP 0 (pdv pd) = b4 := ⟨_, rfl⟩
   rw [hb4]
   have Hbad4 := hI hb4
   have hlt4 : b4 < (pd.length : Int) := by rw [← hb4]; have := (badP_lt (pdv pd) 0 (by omega)).1; simp [pdv] at this ⊢; omega
   clear hb4
   by_cases h4 : 0 ≤ b4
   · have Ho : Hid (outc (pdv pd) pss = (4, b4)) := by
       show _ = _
       unfold outc
       rw [if_neg Hsm.u, Hbad4.u, if_pos h4]
     rw [orLen_pos h4]
     go_wp2_with fail
     refine bodyPost_ret (v := .tuple #[.agg #[.slice none 0 0, .slice none 0 0], .int .i64 4, .int .i64 b4]) (by simp [results, Tryz.results57, go_sem, c0, c1]) rfl ⟨?_, .inr ⟨_, _, pd, rows, pss, 4, b4, rfl, Hform.u, Ho.u, fun _ => ⟨rfl, rfl⟩, fun h => by omega⟩⟩
     exact (Hb3.u.setCell (by simp) _).setCell (by simp) _
   rw [orLen_neg h4]
   go_wp2_with fail
   clear r0 r1 c0 c1 z0 z1
   refine (wrongName_any _ vs pss _ _ (by exact Hvr3.u)).mono ?_
   rintro e w4 ⟨rfl, hb4⟩
   rw [← Hrl.u]
   have HBr4 := hI (HBr3.u.kept hb4)
   have HB4 := hI (HB3.u.kept hb4)
   have Hb4 := hI (Hb3.u.then' Hb3.u.size hb4)
   have Hvp4 := hI (oBelow Hvp3.u hb4)
   have Hvr4 := hI (Hvr3.u.kept hb4)
   have r0 := HBr4.u.cell 0
   have r1 := HBr4.u.cell 1
   have c0 := HB4.u.cell 0
   have c1 := HB4.u.cell 1
   have z0 := HB4.u.frozen 0
   have z1 := HB4.u.frozen 1
   simp only [List.getElem?_toArray, List.getElem?_cons_zero, List.getElem?_cons_succ] at r0 r1 c0 c1
   clear hb4
   obtain ⟨b5, hb5⟩ : ∃ b5, badN 0 pss = b5 := ⟨_, rfl⟩
   rw [hb5]
   have Hbad5 := hI hb5
   have hlt5 : b5 < (vs.length : Int) := by rw [← hb5]; have := (badN_lt pss 0 (by omega)).1; rw [← Hrl.u] at this; omega
   clear hb5
   by_cases h5 : 0 ≤ b5
   · have Ho : Hid (outc (pdv pd) pss = (5, b5)) := by
       show _ = _
       unfold outc
       rw [if_neg Hsm.u, Hbad4.u, if_neg (show ¬ 0 ≤ b4 by omega), Hbad5.u, if_pos h5]
     rw [orLen_pos h5]
     go_wp2_with fail
     refine bodyPost_ret (v := .tuple #[.agg #[.slice none 0 0, .slice none 0 0], .int .i64 5, .int .i64 b5]) (by simp [results, Tryz.results57, go_sem, c0, c1]) rfl ⟨?_, .inr ⟨_, _, pd, rows, pss, 5, b5, rfl, Hform.u, Ho.u, fun _ => ⟨rfl, rfl⟩, fun h => by omega⟩⟩
     exact (Hb4.u.setCell (by simp) _).setCell (by simp) _
   rw [orLen_neg h5]
   go_wp2_with fail
   clear r0 r1 c0 c1 z0 z1
   refine (wrongKind_any _ vs pss _ _ (by exact Hvr4.u) (fun i ps hps => ?_) (by rw [Hbad5.u]; omega) (by omega)).mono ?_
   · obtain ⟨e, he⟩ : ∃ e, rows[i]? = some e := by
       have h1 := (List.getElem?_eq_some_iff.1 hps).1
       exact ⟨rows[i]'(by rw [Hform.u.len]; exact h1), List.getElem?_eq_getElem _⟩
     have h2 := Hform.u.row i e ps he hps
     obtain ⟨n, hn⟩ := h2.wf
     exact ⟨⟨n, e, hn⟩, h2.pos⟩
   rintro e w5 ⟨rfl, hb5⟩
   rw [← Hrl.u]
   have HBr5 := hI (HBr4.u.kept hb5)
   have HB5 := hI (HB4.u.kept hb5)
   have Hb5 := hI (Hb4.u.then' Hb4.u.size hb5)
   have Hvp5 := hI (oBelow Hvp4.u hb5)
   have Hvr5 := hI (Hvr4.u.kept hb5)
   have r0 := HBr5.u.cell 0
   have r1 := HBr5.u.cell 1
   have c0 := HB5.u.cell 0
   have c1 := HB5.u.cell 1
   have z0 := HB5.u.frozen 0
   have z1 := HB5.u.frozen 1
   simp only [List.getElem?_toArray, List.getElem?_cons_zero, List.getElem?_cons_succ] at r0 r1 c0 c1
   clear hb5
   obtain ⟨b6, hb6⟩ : ∃ b6, badK 0 [] pss = b6 := ⟨_, rfl⟩
   rw [hb6]
   have Hbad6 := hI hb6
   have hlt6 : b6 < (vs.length : Int) := by rw [← hb6]; have := (badK_lt pss 0 [] (by omega)).1; rw [← Hrl.u] at this; omega
   clear hb6
   by_cases h6 : 0 ≤ b6
   · have Ho : Hid (outc (pdv pd) pss = (6, b6)) := by
       show _ = _
       unfold outc
       rw [if_neg Hsm.u, Hbad4.u, if_neg (show ¬ 0 ≤ b4 by omega), Hbad5.u, if_neg (show ¬ 0 ≤ b5 by omega), Hbad6.u, if_pos h6]
     rw [orLen_pos h6]
     go_wp2_with fail
     refine bodyPost_ret (v := .tuple #[.agg #[.slice none 0 0, .slice none 0 0], .int .i64 6, .int .i64 b6]) (by simp [results, Tryz.results57, go_sem, c0, c1]) rfl ⟨?_, .inr ⟨_, _, pd, rows, pss, 6, b6, rfl, Hform.u, Ho.u, fun _ => ⟨rfl, rfl⟩, fun h => by omega⟩⟩
     exact (Hb5.u.setCell (by simp) _).setCell (by simp) _
   rw [orLen_neg h6]
   have Ho : Hid (outc (pdv pd) pss = (0, 0)) := by
     show _ = _
     unfold outc
     rw [if_neg Hsm.u, Hbad4.u, if_neg (show ¬ 0 ≤ b4 by omega), Hbad5.u, if_neg (show ¬ 0 ≤ b5 by omega), Hbad6.u, if_neg (show ¬ 0 ≤ b6 by omega)]
   go_wp2_with fail
   refine bodyPost_ret (v := .tuple #[.agg #[.slice aop pd.length capp, .slice aor vs.length capr], .int .i64 0, .int .i64 0]) (by simp [results, Tryz.results57, go_sem, c0, c1]) rfl ⟨?_, .inr ⟨_, _, pd, rows, pss, 0, 0, rfl, Hform.u, Ho.u, fun h => absurd rfl h, fun _ => ⟨?_, vs, ?_⟩⟩⟩
   · exact (Hb5.u.setCell (by simp) _).setCell (by simp) _
   · have hlo : ∀ k, (Value.slice aop pd.length capp).ownBlock = some k → w.heap.size + 1 ≤ k := fun k hk => by have := (Hvp5.u.lt k hk).1; simpa using this
     exact oBase (oSetOther (oSetOther Hvp5.u (fun e => by have := hlo _ e.symm; simp at this; omega) _) (fun e => by have := hlo _ e.symm; simp at this; omega) _) (fun k hk => by have := hlo k hk; omega)
   · refine RowsAt.base (Hvr5.u.frm (X := fun k => k = w.heap.size) (Frm.setCell (X := fun k => k = w.heap.size) (Frm.setCell (X := fun k => k = w.heap.size) (Frm.refl _ _ _) (p := ⟨w.heap.size, 0, none⟩) (.inr rfl) _) (p := ⟨w.heap.size, 1, none⟩) (.inr rfl) _) (fun k hk _ h => by simp at hk; omega)) (by simp)
theorem sText_any (q : Nat) (b : Bk) (pd : List (List UInt8 × List UInt8)) (cells : List (List Cl)) (w : World) (h : Sht' w q b pd cells) (ht : Tab w) :
  Calls Tryz.prog 98 #[.pointer (some ⟨q, 0, none⟩)] w fun e w' => ∃ u : ByteArray, e = .returned (.string u) ∧ L u = rptT cells ∧ Below w.heap.size w w' := by
 obtain ⟨p, vp, vc, vs, h⟩ := h
 obtain ⟨aoc, capc, rfl⟩ := oForm h.cs.own
 obtain ⟨c0, c1, c2⟩ := three_cells h.blk
 have hvl : vs.length = cells.length := h.cs.len
 have hc8 : cells.length ≤ 8 := h.few.2
 have hp4 : pd.length ≤ 4 := h.few.1
 rw [hvl] at c2
 have HG := hI h
 have Ht := hI ht
 clear h ht
 go_enter Tryz.func98, Tryz.ntmps98
 go_wp2_with fail
 go_loopg [3, 13] cells.length (fun m tv i wx => ∃ j : Nat, ∃ u : ByteArray, j ≤ cells.length ∧ m = cells.length - j ∧ i = .int .i64 j ∧ tv = .string u ∧ u.size ≤ 100 * j ∧ Hid (L u = jn 59 ((rptX cells).take j)) ∧ Hid (Below w.heap.size w wx))
 case atStart => exact ⟨0, ⟨#[]⟩, by omega, rfl, rfl, rfl, Nat.zero_le _, rfl, Below.refl _ _⟩
 case round =>
  obtain ⟨i, u, hi, rfl, rfl, rfl, hus, Hu, Hb3⟩ := hrel
  have hsz3 := Hb3.u.size
  by_cases hlt2 : i < cells.length
  ·obtain ⟨row, hrow⟩ : ∃ row, cells[i]? = some row := ⟨cells[i], List.getElem?_eq_getElem hlt2⟩
   have hwid : row.length = pd.length := HG.u.wid row (List.mem_of_getElem? hrow)
   have Hok := hI (HG.u.ok row (List.mem_of_getElem? hrow))
   have HX : Hid ((rptX cells)[i]? = some (jn 44 (rowX row))) := by show _ = _; unfold rptX; rw [List.getElem?_map, hrow]; rfl
   obtain ⟨v, hv⟩ : ∃ v, vs[i]? = some v := ⟨vs[i]'(by omega), List.getElem?_eq_getElem _⟩
   have hR0 := HG.u.cs.row i v row hv hrow
   rw [hwid] at hR0
   have HR := hI hR0
   obtain ⟨aor, capr, rfl⟩ := oForm HR.u
   obtain ⟨gc, _, e1, hgc, hgc'⟩ := oSome HG.u.cs.own (by omega)
   simp only [Value.slice.injEq] at e1
   obtain ⟨rfl, _, rfl⟩ := e1
   have dd0 := oCell HG.u.cs.own (j := i) hv
   have dd := kept_cell' Hb3.u dd0
   have Hin : Hid (∀ u1 : ByteArray, L u1 = jpre 59 (rptX cells) i → ∀ u2 : ByteArray, L u2 = jpre 59 (rptX cells) i ++ jn 44 (rowX row) → L u2 = jn 59 ((rptX cells).take (i + 1))) := by
    intro u1 h1 u2 h2
    rw [jn_pre HX.u, h2]
   have Hstart : Hid (∃ u1 : ByteArray, u1 = (if i = 0 then u else u ++ ⟨#[59]⟩) ∧ L u1 = jpre 59 (rptX cells) i ∧ u1.size ≤ 100 * i + 1) := by
    refine ⟨_, rfl, ?_, ?_⟩
    ·by_cases h0 : i = 0
     ·subst h0; rw [if_pos rfl, jpre_zero]; have := Hu.u; simpa [jn] using this
     ·rw [if_neg h0, L_append, Hu.u, jpre_pos (by omega)]; rfl
    ·by_cases h0 : i = 0
     ·rw [if_pos h0]; omega
     ·rw [if_neg h0, size_L, L_append, List.length_append, L_length]; show u.size + 1 ≤ _; omega
   obtain ⟨u1, hu1, hL1, hs1⟩ := Hstart.u
   have HL1 := hI hL1
   have hin : (i : Int) < (cells.length : Int) := by omega
   clear Hstart hL1 hrow hv hR0 dd0
   by_cases h0 : i = 0
   ·have hpos : ¬ (0 : Int) < (i : Int) := by omega
    rw [if_pos h0] at hu1
    clear h0
    go_wp2_with fail
    obtain ⟨W3, hW3⟩ : ∃ W3, wr = W3 := ⟨_, rfl⟩
    rw [hW3] at Hb3 hsz3 ⊢
    clear hW3 dd
    go_loopg [3, 24] pd.length (fun m tv iv wx => ∃ k : Nat, ∃ u : ByteArray, k ≤ pd.length ∧ m = pd.length - k ∧ iv = .int .i64 k ∧ tv = .string u ∧ u.size ≤ 810 + 22 * k ∧ Hid (u.size ≤ 100 * i + 1 + 22 * k) ∧ Hid (L u = jpre 59 (rptX cells) i ++ jn 44 ((rowX row).take k)) ∧ Hid (Below W3.heap.size W3 wx))
    case atStart => exact ⟨0, u, by omega, rfl, rfl, rfl, by rw [← hu1]; omega, (show _ ≤ _ from by rw [← hu1]; omega), (show _ = _ from by rw [← hu1, HL1.u]; simp [jn]), Below.refl _ _⟩
    case round =>
     obtain ⟨k, u2, hk, rfl, rfl, rfl, hu2s, Hu2s, Hu2, Hb4⟩ := hrel
     have hsz4 := Hb4.u.size
     have Hbw4 := hI (Hb3.u.then' hsz3 Hb4.u)
     by_cases hlk : k < pd.length
     ·obtain ⟨c, hc⟩ : ∃ c, row[k]? = some c := ⟨row[k]'(by omega), List.getElem?_eq_getElem _⟩
      have hro := oBelow HR.u Hbw4.u
      obtain ⟨gr, _, e1, hgr, hgr'⟩ := oSome hro (by omega)
      simp only [Value.slice.injEq, true_and] at e1
      obtain ⟨rfl, rfl⟩ := e1
      have h2 := two_get (fun c : Cl => Value.int .i64 (gst c.2)) (fun c => Value.int .i64 c.1) row k c hc
      have d1 := oCell hro (j := k * 2) h2.1
      have d2 := oCell hro (j := k * 2 + 1) h2.2
      have Hoc := hI (Hok.u c (List.mem_of_getElem? hc))
      have Hxc : Hid ((rowX row)[k]? = some (cellT c)) := by show _ = _; unfold rowX; rw [List.getElem?_map, hc]; rfl
      have Htx := hI (fun (wx : World) (hb : Below w.heap.size w wx) => gText_any c wx Hoc.u (Ht.u.below hb))
      obtain ⟨c1, c2⟩ := c
      unfold gV at Htx
      simp only at d1 d2 Htx
      obtain ⟨z, hz⟩ : ∃ z, gst c2 = z := ⟨_, rfl⟩
      rw [hz] at d1 Htx
      have hszw := Hbw4.u.size
      clear hro h2 hc hz
      by_cases hk0 : k = 0
      ·have hk1 : ¬ (0 : Int) < (k : Int) := by omega
       have Hk0 := hI hk0
       clear hk0
       go_wp2_with fail
       refine (Htx.u _ (by exact Hbw4.u.alloc hszw _)).mono ?_
       rintro e w6 ⟨u6, rfl, hu6, hs6, hb6⟩
       have Hu6 : Hid (L (u2 ++ u6) = jpre 59 (rptX cells) i ++ jn 44 ((rowX row).take (k + 1))) := by
        show _ = _
        rw [L_append, Hu2.u, hu6, jn_pre Hxc.u, Hk0.u, jpre_zero]; simp [jn]
       have Hs6 : Hid ((u2 ++ u6).size ≤ 100 * i + 1 + 22 * (k + 1) ∧ (u2 ++ u6).size ≤ 810 + 22 * (k + 1)) := by
        have := Hu2s.u
        show _ ∧ _
        rw [size_app]; omega
       have Hb6 := hI ((Hb4.u.alloc hsz4 _).then' (by simp; omega) hb6)
       clear hu6 hb6
       go_wp2_with fail
       go_roundg (pd.length - (k + 1))
       case measure => omega
       case rel => exact ⟨k + 1, _, by omega, rfl, by go_num, rfl, Hs6.u.2, Hs6.u.1, Hu6.u, Hb6.u⟩
      ·have hk1 : (0 : Int) < (k : Int) := by omega
       go_wp2_with fail
       refine (Htx.u _ (by exact Hbw4.u.alloc hszw _)).mono ?_
       rintro e w6 ⟨u6, rfl, hu6, hs6, hb6⟩
       have Hu6 : Hid (L (u2 ++ ⟨#[44]⟩ ++ u6) = jpre 59 (rptX cells) i ++ jn 44 ((rowX row).take (k + 1))) := by
        show _ = _
        rw [L_append, L_append, Hu2.u, hu6, jn_pre Hxc.u, jpre_pos (sep := 44) (i := k) (by omega), show L ⟨#[44]⟩ = [44] from rfl]; simp
       have Hs6 : Hid ((u2 ++ ⟨#[44]⟩ ++ u6).size ≤ 100 * i + 1 + 22 * (k + 1) ∧ (u2 ++ ⟨#[44]⟩ ++ u6).size ≤ 810 + 22 * (k + 1)) := by
        have := Hu2s.u
        show _ ∧ _
        rw [size_app, size_app]; show u2.size + 1 + u6.size ≤ _ ∧ u2.size + 1 + u6.size ≤ _; omega
       have Hb6 := hI ((Hb4.u.alloc hsz4 _).then' (by simp; omega) hb6)
       clear hu6 hb6
       go_wp2_with fail
       go_roundg (pd.length - (k + 1))
       case measure => omega
       case rel => exact ⟨k + 1, _, by omega, rfl, by go_num, rfl, Hs6.u.2, Hs6.u.1, Hu6.u, Hb6.u⟩
     ·obtain rfl : k = pd.length := by omega
      have Hu7 : Hid (L u2 = jn 59 ((rptX cells).take (i + 1))) := Hin.u _ HL1.u u2 (by rw [Hu2.u, List.take_of_length_le (by simp [rowX, hwid])])
      have hs7 : u2.size ≤ 100 * (i + 1) := by have := Hu2s.u; omega
      go_wp2_with fail
      go_roundg (cells.length - (i + 1))
      case measure => omega
      case rel => exact ⟨i + 1, u2, by omega, rfl, by go_num, rfl, hs7, Hu7.u, Hbw4.u⟩
   ·have hpos : (0 : Int) < (i : Int) := by omega
    have hposN : decide (0 < i) = true := by simp; omega
    rw [if_neg h0] at hu1
    clear h0
    go_wp2_with fail
    obtain ⟨W3, hW3⟩ : ∃ W3, wr = W3 := ⟨_, rfl⟩
    rw [hW3] at Hb3 hsz3 ⊢
    clear hW3 dd
    go_loopg [3, 24] pd.length (fun m tv iv wx => ∃ k : Nat, ∃ u : ByteArray, k ≤ pd.length ∧ m = pd.length - k ∧ iv = .int .i64 k ∧ tv = .string u ∧ u.size ≤ 810 + 22 * k ∧ Hid (u.size ≤ 100 * i + 1 + 22 * k) ∧ Hid (L u = jpre 59 (rptX cells) i ++ jn 44 ((rowX row).take k)) ∧ Hid (Below W3.heap.size W3 wx))
    case atStart => exact ⟨0, (u ++ ⟨#[59]⟩), by omega, rfl, rfl, rfl, by rw [← hu1]; omega, (show _ ≤ _ from by rw [← hu1]; omega), (show _ = _ from by rw [← hu1, HL1.u]; simp [jn]), Below.refl _ _⟩
    case round =>
     obtain ⟨k, u2, hk, rfl, rfl, rfl, hu2s, Hu2s, Hu2, Hb4⟩ := hrel
     have hsz4 := Hb4.u.size
     have Hbw4 := hI (Hb3.u.then' hsz3 Hb4.u)
     by_cases hlk : k < pd.length
     ·obtain ⟨c, hc⟩ : ∃ c, row[k]? = some c := ⟨row[k]'(by omega), List.getElem?_eq_getElem _⟩
      have hro := oBelow HR.u Hbw4.u
      obtain ⟨gr, _, e1, hgr, hgr'⟩ := oSome hro (by omega)
      simp only [Value.slice.injEq, true_and] at e1
      obtain ⟨rfl, rfl⟩ := e1
      have h2 := two_get (fun c : Cl => Value.int .i64 (gst c.2)) (fun c => Value.int .i64 c.1) row k c hc
      have d1 := oCell hro (j := k * 2) h2.1
      have d2 := oCell hro (j := k * 2 + 1) h2.2
      have Hoc := hI (Hok.u c (List.mem_of_getElem? hc))
      have Hxc : Hid ((rowX row)[k]? = some (cellT c)) := by show _ = _; unfold rowX; rw [List.getElem?_map, hc]; rfl
      have Htx := hI (fun (wx : World) (hb : Below w.heap.size w wx) => gText_any c wx Hoc.u (Ht.u.below hb))
      obtain ⟨c1, c2⟩ := c
      unfold gV at Htx
      simp only at d1 d2 Htx
      obtain ⟨z, hz⟩ : ∃ z, gst c2 = z := ⟨_, rfl⟩
      rw [hz] at d1 Htx
      have hszw := Hbw4.u.size
      clear hro h2 hc hz
      by_cases hk0 : k = 0
      ·have hk1 : ¬ (0 : Int) < (k : Int) := by omega
       have Hk0 := hI hk0
       clear hk0
       go_wp2_with fail
       refine (Htx.u _ (by exact Hbw4.u.alloc hszw _)).mono ?_
       rintro e w6 ⟨u6, rfl, hu6, hs6, hb6⟩
       have Hu6 : Hid (L (u2 ++ u6) = jpre 59 (rptX cells) i ++ jn 44 ((rowX row).take (k + 1))) := by
        show _ = _
        rw [L_append, Hu2.u, hu6, jn_pre Hxc.u, Hk0.u, jpre_zero]; simp [jn]
       have Hs6 : Hid ((u2 ++ u6).size ≤ 100 * i + 1 + 22 * (k + 1) ∧ (u2 ++ u6).size ≤ 810 + 22 * (k + 1)) := by
        have := Hu2s.u
        show _ ∧ _
        rw [size_app]; omega
       have Hb6 := hI ((Hb4.u.alloc hsz4 _).then' (by simp; omega) hb6)
       clear hu6 hb6
       go_wp2_with fail
       go_roundg (pd.length - (k + 1))
       case measure => omega
       case rel => exact ⟨k + 1, _, by omega, rfl, by go_num, rfl, Hs6.u.2, Hs6.u.1, Hu6.u, Hb6.u⟩
      ·have hk1 : (0 : Int) < (k : Int) := by omega
       go_wp2_with fail
       refine (Htx.u _ (by exact Hbw4.u.alloc hszw _)).mono ?_
       rintro e w6 ⟨u6, rfl, hu6, hs6, hb6⟩
       have Hu6 : Hid (L (u2 ++ ⟨#[44]⟩ ++ u6) = jpre 59 (rptX cells) i ++ jn 44 ((rowX row).take (k + 1))) := by
        show _ = _
        rw [L_append, L_append, Hu2.u, hu6, jn_pre Hxc.u, jpre_pos (sep := 44) (i := k) (by omega), show L ⟨#[44]⟩ = [44] from rfl]; simp
       have Hs6 : Hid ((u2 ++ ⟨#[44]⟩ ++ u6).size ≤ 100 * i + 1 + 22 * (k + 1) ∧ (u2 ++ ⟨#[44]⟩ ++ u6).size ≤ 810 + 22 * (k + 1)) := by
        have := Hu2s.u
        show _ ∧ _
        rw [size_app, size_app]; show u2.size + 1 + u6.size ≤ _ ∧ u2.size + 1 + u6.size ≤ _; omega
       have Hb6 := hI ((Hb4.u.alloc hsz4 _).then' (by simp; omega) hb6)
       clear hu6 hb6
       go_wp2_with fail
       go_roundg (pd.length - (k + 1))
       case measure => omega
       case rel => exact ⟨k + 1, _, by omega, rfl, by go_num, rfl, Hs6.u.2, Hs6.u.1, Hu6.u, Hb6.u⟩
     ·obtain rfl : k = pd.length := by omega
      have Hu7 : Hid (L u2 = jn 59 ((rptX cells).take (i + 1))) := Hin.u _ HL1.u u2 (by rw [Hu2.u, List.take_of_length_le (by simp [rowX, hwid])])
      have hs7 : u2.size ≤ 100 * (i + 1) := by have := Hu2s.u; omega
      go_wp2_with fail
      go_roundg (cells.length - (i + 1))
      case measure => omega
      case rel => exact ⟨i + 1, u2, by omega, rfl, by go_num, rfl, hs7, Hu7.u, Hbw4.u⟩
  ·obtain rfl : i = cells.length := by omega
   have Hfin : Hid (L u = rptT cells) := by
    show _ = _
    rw [Hu.u]
    unfold rptT
    rw [List.take_of_length_le (by simp [rptX])]
   go_wp2_with fail
   go_ret
   exact ⟨u, rfl, Hfin.u, Hb3.u⟩
theorem sReport_any (Bl p : Nat) (b : Bk) (vp vr : Value) (vs : List Value) (pd : List (List UInt8 × List UInt8)) (pss : List (List Pt)) (B : Nat) (w : World) (hl : Led w Bl p b) (hp : w.ownsRow B 177 2 vp pd.length (cellsD pd)) (hr : RowsAt w B vr vs pss) (hp4 : pd.length ≤ 4) (h8 : pss.length ≤ 8)
  (hrow : ∀ (i : Nat) ps, pss[i]? = some ps → (∃ n e, Wf n e ps) ∧ ∀ x ∈ ps, PtOk i x) (ht : Tab w) :
  Calls Tryz.prog 58 #[.agg #[vp, vr], .pointer (some ⟨p, 0, none⟩)] w fun e w' => ((pss.any (selq (notB b)) = true ∧ e = .returned (.tuple #[.string ⟨#[]⟩, .int .i64 7])) ∨ (pss.any (selq (notB b)) = false ∧ ∃ u, e = .returned (.tuple #[.string u, .int .i64 0]) ∧ L u = rptT (shC b (pdv pd) pss))) ∧ Below w.heap.size w w' := by
 obtain ⟨aop, capp, rfl⟩ := oForm hp
 obtain ⟨aor, capr, rfl⟩ := oForm hr.own
 have Hl := hI hl
 have Hp := hI hp
 have Hr := hI hr
 have Hrow := hI hrow
 have Ht := hI ht
 have hvl : vs.length ≤ 8 := by rw [hr.len]; exact h8
 have Hlen := hI hr.len
 obtain ⟨W, hW, B1, hbW, hWs⟩ := one_new w #[.slice aop pd.length capp, .slice aor vs.length capr] 110
 have HB1 := hI B1
 have HbW := hI hbW
 obtain ⟨x0, x1, _, _, lx⟩ := two_cells B1
 have Hha := hI (sHasAccounts_any Bl p b _ vs pss B W (hl.kept hbW) (hr.kept hbW) h8)
 obtain ⟨an, han⟩ : ∃ an, pss.any (selq (notB b)) = an := ⟨_, rfl⟩
 rw [han] at Hha ⊢
 clear hl hp hr hrow ht B1 hbW han
 go_enter Tryz.func58, Tryz.ntmps58
 go_wp2_with fail
 try rw [hW]
 refine Hha.u.mono ?_
 rintro e w2 ⟨rfl, hb2⟩
 have Hb2 := hI (HbW.u.then' (by omega) hb2)
 have HB2 := hI (HB1.u.kept hb2)
 obtain ⟨y0, y1, _, _, ly⟩ := two_cells HB2.u
 have hsz2 := Hb2.u.size
 clear hb2 Hha hW x0 x1 lx
 cases an with
 | true =>
  go_wp2_with fail
  go_ret2
  exact ⟨rfl, Hb2.u⟩
 | false =>
  have Hst : Hid (ShtIn (w2.alloc (.cells #[.slice aop pd.length capp, .pointer (some ⟨p, 0, none⟩), .slice none 0 0] 162)) w2.heap.size w.heap.size b pd [] p (.slice aop pd.length capp) (.slice none 0 0) []) := by
   have hb : Below w.heap.size w (w2.alloc (.cells #[.slice aop pd.length capp, .pointer (some ⟨p, 0, none⟩), .slice none 0 0] 162)) := Hb2.u.alloc hsz2 _
   refine ⟨⟨Blk.new _ _ _, ⟨Bl, Hl.u.kept hb⟩, ⟨B, oBelow Hp.u hb⟩, GCells.nil _ _, by simp, ⟨hp4, by simp⟩, by simp⟩, hsz2, ?_⟩
   intro w' hb'
   exact ⟨⟨Bl, Hl.u.kept (hb.trans hb')⟩, ⟨B, oBelow Hp.u (hb.trans hb')⟩⟩
  have Hst2 : Hid (Below w.heap.size w (w2.alloc (.cells #[.slice aop pd.length capp, .pointer (some ⟨p, 0, none⟩), .slice none 0 0] 162))) := Hb2.u.alloc hsz2 _
  go_wp2_with fail
  go_loopg [22] vs.length (fun m i wr => ∃ j : Nat, j ≤ vs.length ∧ m = vs.length - j ∧ i = .int .i64 j ∧ Hid (∃ vc us, ShtIn wr w2.heap.size w.heap.size b pd (shC b (pdv pd) (pss.take j)) p (.slice aop pd.length capp) vc us) ∧ Hid (Below w.heap.size w wr))
  case atStart => exact ⟨0, by omega, rfl, rfl, ⟨_, _, Hst.u⟩, Hst2.u⟩
  case round =>
   obtain ⟨j, hj, rfl, rfl, HS, Hb⟩ := hrel
   have hsz := Hb.u.size
   by_cases hlt : j < vs.length
   ·obtain ⟨v, hv⟩ : ∃ v, vs[j]? = some v := ⟨vs[j], List.getElem?_eq_getElem hlt⟩
    obtain ⟨ps, hps⟩ : ∃ ps, pss[j]? = some ps := ⟨pss[j]'(by have := Hlen.u; omega), List.getElem?_eq_getElem _⟩
    obtain ⟨g, _, e1, hg, hg'⟩ := oSome Hr.u.own (by omega)
    simp only [Value.slice.injEq, true_and] at e1
    obtain ⟨rfl, rfl⟩ := e1
    have d := oCell (oBelow Hr.u.own Hb.u) (j := j) hv
    have hrw := Hr.u.row j v ps hv hps
    have hpl := Hr.u.bd ps (List.mem_of_getElem? hps)
    obtain ⟨aov, capv, rfl⟩ := oForm hrw
    obtain ⟨hwf, hpt⟩ := Hrow.u j ps hps
    have hcl : (shC b (pdv pd) (pss.take j)).length = j := by rw [shC_len, List.length_take]; have := Hlen.u; omega
    have Hsn : Hid (shC b (pdv pd) (pss.take j) ++ [rowP b (pdv pd) (shC b (pdv pd) (pss.take j)) ps pd.length] = shC b (pdv pd) (pss.take (j + 1))) := by
     show _ = _
     rw [shC_snoc hps, show (pdv pd).length = pd.length by simp [pdv]]
    have Hlay : Hid (∀ o : Obj, Calls Tryz.prog 97 #[.pointer (some ⟨w2.heap.size, 0, none⟩), .agg #[.slice aov ps.length capv]] (wr.alloc o) fun e w' => e = .returned (.tuple #[]) ∧ (∃ vc' vs', ShtIn w' w2.heap.size w.heap.size b pd (shC b (pdv pd) (pss.take (j + 1))) p (.slice aop pd.length capp) vc' vs') ∧ Below w.heap.size (wr.alloc o) w') := by
     intro o
     obtain ⟨vc, us, hs⟩ := HS.u
     have hbo : Below wr.heap.size wr (wr.alloc o) := (Below.refl _ _).alloc (Nat.le_refl _) _
     have := sLay_any w2.heap.size w.heap.size b pd _ p _ vc us _ ps B (wr.alloc o) (hs.kept hbo hsz) (by simp; omega) (oBelow (oBelow hrw Hb.u) hbo) hpl (by rw [hcl]; omega) hwf (by rw [hcl]; exact hpt)
     rw [Hsn.u] at this
     exact this
    clear hv hps hrw hwf hpt hcl
    go_wp2_with fail
    refine (Hlay.u _).mono ?_
    rintro e w4 ⟨rfl, hs4, hb4⟩
    have HS4 := hI hs4
    have Hb4 := hI ((Hb.u.alloc hsz _).trans hb4)
    clear hs4 hb4 Hlay
    go_wp2_with fail
    go_roundg (vs.length - (j + 1))
    case measure => omega
    case rel => exact ⟨j + 1, by omega, rfl, by go_num, HS4.u, Hb4.u⟩
   ·obtain rfl : j = vs.length := by omega
    have htk : pss.take vs.length = pss := by rw [Hlen.u]; exact List.take_length
    have Htx : Hid (Calls Tryz.prog 98 #[.pointer (some ⟨w2.heap.size, 0, none⟩)] wr fun e w' => ∃ u : ByteArray, e = .returned (.string u) ∧ L u = rptT (shC b (pdv pd) pss) ∧ Below wr.heap.size wr w') := by
     obtain ⟨vc, us, hs⟩ := HS.u
     rw [htk] at hs
     exact sText_any w2.heap.size b pd _ wr ⟨_, _, _, _, hs.toShtAt⟩ (Ht.u.below Hb.u)
    clear htk
    go_wp2_with fail
    refine Htx.u.mono ?_
    rintro e w5 ⟨u, rfl, hu, hb5⟩
    have Hu := hI hu
    have Hb5 := hI (Hb.u.then' hsz hb5)
    clear hu hb5 Htx
    go_wp2_with fail
    go_ret2
    exact ⟨⟨u, rfl, Hu.u⟩, Hb5.u⟩
theorem opnd_ptOk {e : List UInt8} {ps : List Pt} (h : Opnd e ps) : ∀ p ∈ ps, inR p.2 = true := by
 rcases h with ⟨_, hl, hd, rfl⟩ | ⟨c, ds, rfl, _, hd, hk, rfl⟩
 ·intro p hp
  simp only [List.mem_singleton] at hp
  subst hp
  exact val_in hl hd
 ·intro p hp
  simp only [List.mem_singleton] at hp
  subst hp
  refine val_in ?_ hd
  rcases hk with ⟨_, h⟩ | ⟨_, h⟩ <;> omega
theorem wf_inR {n : Nat} : ∀ {e : List UInt8} {ps : List Pt}, Wf n e ps → ∀ p ∈ ps, inR p.2 = true := by
 induction n with
 | zero => intro e ps h; exact absurd h (by simp [Wf])
 | succ n ih =>
  intro e ps h
  rcases h with ⟨_, h⟩ | ⟨_, h2⟩ | ⟨_, p, h2, rfl⟩ | ⟨h1, p, r, h2, h3, rfl⟩
  ·exact opnd_ptOk h
  ·exact ih h2
  ·intro x hx
   simp at hx
   rcases hx with hx | rfl
   ·exact ih h2 x hx
   ·rfl
  ·intro x hx
   simp at hx
   rcases hx with hx | hx | rfl
   ·exact ih h2 x hx
   ·exact ih h3 x hx
   ·rfl
theorem ptOk_of {t : ByteArray} {pd : List (List UInt8 × List UInt8)} {rows : List (List UInt8)} {pss : List (List Pt)} {pl : Int} (hf : Db.Form (L t) pd rows pss) (ho : outc (pdv pd) pss = (0, pl)) : ∀ (i : Nat) ps, pss[i]? = some ps → (∃ n e, Wf n e ps) ∧ ∀ x ∈ ps, PtOk i x := by
 intro i ps hps
 obtain ⟨e, he⟩ : ∃ e, rows[i]? = some e := by
  have h1 := (List.getElem?_eq_some_iff.1 hps).1
  exact ⟨rows[i]'(by rw [hf.len]; exact h1), List.getElem?_eq_getElem _⟩
 have h := hf.row i e ps he hps
 obtain ⟨n, hn⟩ := h.wf
 refine ⟨⟨n, e, hn⟩, fun x hx => ⟨wf_inR hn x hx, fun hold => ⟨h.pos x hx, ?_⟩⟩⟩
 have h1 := badN_all pss 0 (by omega) (outc_few ho rfl).2.2.2 i ps hps
 exact nameB_lt h1 h.pos i (by omega) x hx hold
theorem dayReport_any (Bl p : Nat) (b : Bk) (s : ByteArray) (w : World) (hl : Led w Bl p b) (hm : s.size ≤ maxLen) (ht : Tab w) :
  Calls Tryz.prog 27 #[.pointer (some ⟨p, 0, none⟩), .string s] w fun e w' => ∃ (u : ByteArray) (er : Int), e = .returned (.tuple #[.string u, .int .i64 er]) ∧ RepIs b s u er ∧ Below w.heap.size w w' := by
 have hpl : p < w.heap.size := by obtain ⟨_, _, _, _, h⟩ := hl; exact h.blk.lt
 by_cases hs : 200 < s.size
 ·clear hl ht
  go_enter Tryz.func27, Tryz.ntmps27
  go_wp2_with fail
  refine (read_long s _ hs hm).mono ?_
  rintro e w1 ⟨rfl, hb⟩
  have Hb := hI hb
  have hsz := hb.size
  clear hb
  go_wp2_with fail
  go_ret2
  exact ⟨_, 1, rfl, .inl ⟨hs, rfl, rfl⟩, Hb.u.alloc hsz _⟩
 ·have hs' : s.size ≤ 200 := by omega
  have Ht := hI ht
  have Hl := hI hl
  clear ht hl
  go_enter Tryz.func27, Tryz.ntmps27
  go_wp2_with fail
  refine (read_short s _ hs').mono ?_
  rintro e w1 ⟨hb, ⟨pp, rfl, hp, hp0⟩ | ⟨vp, vr, pd, rows, pss, er, pl, rfl, hf, ho, hz, hok⟩⟩
  ·have Hb := hI hb
   have hsz := hb.size
   have Hc : Hid (RepIs b s ⟨#[]⟩ 2) := .inr (.inl ⟨hs', rfl, by rw [hp]; exact hp0, rfl⟩)
   clear hb hp
   go_wp2_with fail
   go_ret2
   exact ⟨_, 2, rfl, Hc.u, Hb.u.alloc hsz _⟩
  ·have Hb := hI hb
   have hsz := hb.size
   by_cases h0 : er = 0
   ·subst h0
    obtain ⟨hvp, vs, hvr⟩ := hok rfl
    obtain ⟨a1, k1, rfl⟩ := oForm hvp
    obtain ⟨a2, k2, rfl⟩ := oForm hvr.own
    have hsm := outc_few ho rfl
    have hpl4 : pd.length ≤ 4 := by have := hsm.1; simpa [pdv] using this
    obtain ⟨W, hW, B1, hbW, hWs⟩ := one_new w1 #[.slice a1 pd.length k1, .slice a2 vs.length k2] 110
    obtain ⟨x0, x1, _, _, lx⟩ := two_cells B1
    have HbW := hI (hb.then' hsz hbW)
    have hpW : p < W.heap.size := by omega
    have Hrp := hI (fun (wx : World) (hbx : Below W.heap.size W wx) => sReport_any Bl p b (.slice a1 pd.length k1) (.slice a2 vs.length k2) vs pd pss w.heap.size wx (Hl.u.kept (HbW.u.then' (by omega) hbx)) (oBelow (oBelow hvp hbW) hbx) ((hvr.kept hbW).kept hbx) hpl4 hsm.2.1 (ptOk_of hf ho) (Ht.u.below (HbW.u.then' (by omega) hbx)))
    have Hfo : Hid (∀ u er, ((pss.any (selq (notB b)) = true ∧ er = 7 ∧ u = ⟨#[]⟩) ∨ (pss.any (selq (notB b)) = false ∧ er = 0 ∧ L u = rptT (shC b (pdv pd) pss))) → RepIs b s u er) := fun u er h => .inr (.inr ⟨hs', pd, rows, pss, 0, pl, hf, ho, by
     rcases h with ⟨h1, h2, h3⟩ | ⟨h1, h2, h3⟩
     ·exact .inr (.inl ⟨rfl, h1, h2, h3⟩)
     ·exact .inr (.inr ⟨rfl, h1, h2, h3⟩)⟩)
    have Hrp2 : Hid (∀ (wx : World), Below W.heap.size W wx → Calls Tryz.prog 58 #[.agg #[.slice a1 pd.length k1, .slice a2 vs.length k2], .pointer (some ⟨p, 0, none⟩)] wx fun e w' => ∃ (u : ByteArray) (er : Int), e = .returned (.tuple #[.string u, .int .i64 er]) ∧ RepIs b s u er ∧ Below wx.heap.size wx w') := by
     intro wx hbx
     refine (Hrp.u wx hbx).mono ?_
     rintro e w' ⟨⟨h1, rfl⟩ | ⟨h1, u, rfl, h2⟩, hb'⟩
     ·exact ⟨_, 7, rfl, Hfo.u _ _ (.inl ⟨h1, rfl, rfl⟩), hb'⟩
     ·exact ⟨u, 0, rfl, Hfo.u _ _ (.inr ⟨h1, rfl, h2⟩), hb'⟩
    clear hb hf ho hz hok hvp hvr hsm B1 hbW Hrp Hfo
    go_upto_region 4 with fail
    try rw [hW]
    clear hW
    go_region_held3 (fun w' => w'.cell? ⟨w1.heap.size, 0, none⟩ = some (.slice a1 pd.length k1) ∧ w'.cell? ⟨w1.heap.size, 1, none⟩ = some (.slice a2 vs.length k2)) (first | go_keep | exact ⟨kept_cell' hb4 (by simp [*]), kept_cell' hb4 (by simp [*])⟩) (first | (go_at_call 58; refine (Hrp2.u _ (by exact (Below.refl _ _).drew)).mono ?_; rintro e w4 ⟨u, er, rfl, hu, hb4⟩))
    have Hu := hI hu
    have Hb4 := hI (HbW.u.then' (by omega) hb4.undrew)
    clear hu hb4
    go_wp2_with fail
    go_ret2
    exact ⟨u, er, rfl, Hu.u, Hb4.u⟩
   ·obtain ⟨rfl, rfl⟩ := hz h0
    have Hc : Hid (RepIs b s ⟨#[]⟩ er) := .inr (.inr ⟨hs', pd, rows, pss, er, pl, hf, ho, .inl ⟨h0, rfl, rfl⟩⟩)
    have hne : (er == 0) = false := by simpa using h0
    clear hb hf ho hz hok
    go_wp2_with fail
    go_ret2
    exact ⟨_, er, rfl, Hc.u, Hb.u.alloc hsz _⟩
theorem refReport_any (B p : Nat) (b : Bk) (s u : ByteArray) (w : World) (h : Rfd w B p b) (hm : s.size ≤ maxLen) (er : Int) (hc : RepIs b s u er) :
  Calls Tryz.prog 124 #[.pointer (some ⟨p, 0, none⟩), .string s] w fun e w' => e = .returned (.tuple #[.string u, .int .i64 er]) ∧ Below w.heap.size w w' := by
 rcases hc with ⟨hs, rfl, rfl⟩ | ⟨hs, rfl, hp, rfl⟩ | ⟨hs, pd, rows, pss, e0, pl, hf, ho, ⟨h0, rfl, rfl⟩ | ⟨rfl, ha, rfl, rfl⟩ | ⟨rfl, ha, rfl, hu⟩⟩
 ·clear h
  go_enter Tryz.func124, Tryz.ntmps124
  go_wp2_with fail
  refine (refRead_long s _ hs hm).mono ?_
  rintro e w1 ⟨rfl, hb⟩
  have Hb := hI hb
  have hsz := hb.size
  clear hb
  go_wp2_with fail
  go_ret2
  exact ⟨rfl, Hb.u.alloc hsz _⟩
 ·obtain ⟨pp, hpp⟩ : ∃ pp, plc 0 0 0 0 (L s) = pp := ⟨_, rfl⟩
  have Hp := hI hp
  have Hpp := hI hpp
  clear hp hpp h
  go_enter Tryz.func124, Tryz.ntmps124
  go_wp2_with fail
  refine (refRead_form s _ hs Hp.u).mono ?_
  rintro e w1 ⟨rfl, hb⟩
  rw [Hpp.u]
  have Hb := hI hb
  have hsz := hb.size
  clear hb
  go_wp2_with fail
  go_ret2
  exact ⟨rfl, Hb.u.alloc hsz _⟩
 ·have Hf := hI hf
  have Ho := hI ho
  have hne : (er == 0) = false := by simpa using h0
  clear hf ho h
  go_enter Tryz.func124, Tryz.ntmps124
  go_wp2_with fail
  refine (refRead_ok s _ hs pd rows pss Hf.u).mono ?_
  rintro e w1 ⟨a1, n1, k1, a2, n2, k2, a3, n3, k3, er', pl', rfl, ho', hb, _⟩
  have hh := Ho.u.symm.trans ho'
  simp only [Prod.mk.injEq] at hh
  obtain ⟨rfl, rfl⟩ := hh
  have Hb := hI hb
  have hsz := hb.size
  clear hb ho'
  go_wp2_with fail
  go_ret2
  exact ⟨rfl, Hb.u.alloc hsz _⟩
 ·refine (refReport_ok B p b s w hs pd rows pss pl hf ho h).mono ?_
  rintro e w1 ⟨⟨_, rfl⟩ | ⟨h1, _⟩, hb⟩
  ·exact ⟨rfl, hb⟩
  ·rw [ha] at h1; cases h1
 ·refine (refReport_ok B p b s w hs pd rows pss pl hf ho h).mono ?_
  rintro e w1 ⟨⟨h1, _⟩ | ⟨_, u', rfl, hu'⟩, hb⟩
  ·rw [ha] at h1; cases h1
  ·obtain rfl : u' = u := L_inj (hu'.trans hu.symm)
   exact ⟨rfl, hb⟩
end Go.Proofs.YtdchbenfccofpaaGreatDoor
