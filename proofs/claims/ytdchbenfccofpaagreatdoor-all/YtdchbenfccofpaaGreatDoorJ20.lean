/- Own texts of the theorem in YtdchbenfccofpaaGreatDoorWAlY, part 20. -/
import Derived.Test.YtdchbenfccofpaaGreatDoorJ19
import Derived.Test.YtdchbenfccofpaaGreatDoorJ17
import Derived.Test.YtdchbenfccofpaaGreatDoorJ16
import Derived.Test.YtdchbenfccofpaaGreatDoorJ02
import Derived.Lib.ItoaNum
import Derived.Lib.ItoaMem
import Derived.Test.YtdchbenfccofpaaGreatDoorJ01
import Derived.Test.YtdchbenfccofpaaGreatDoorJ06
import Derived.Lib.AppendIntMem
import Derived.Laws.IdiomStrings
import Derived.Test.YtdchbenfccofpaaGreatDoorJ15
import Derived.Lib.ItoaLen
import Derived.Test.YtdchbenfccofpaaGreatDoorJ07
import Derived.Deep.LoopGhost
import Derived.Test.YtdchbenfccofpaaGreatDoorJ08
set_option maxRecDepth 100000
set_option maxHeartbeats 8000000
namespace Go.Proofs.YtdchbenfccofpaaGreatDoor
open Go.RowKit Db
theorem workOut_one (b : Nat) (v : Value) (o y : Int) (w : World) (h : Cd w b v [(48, y)]) (ho : (o == 126) = false) :
  Calls Tryz.prog 192 #[.pointer (some ⟨b, 0, none⟩), .int .u8 o] w fun e w' => e = .returned (.bool false) ∧ Cd w' b v [(48, y)] ∧ Frm w.heap.size (XR b v) w w' := by
 obtain ⟨ao, cap, rfl⟩ := oForm h.own
 have c0 := h.blk.cell 0
 have hbl := h.blk.lt
 simp only [List.getElem?_toArray, List.getElem?_cons_zero] at c0
 obtain ⟨g, cap', e1, hg, hg'⟩ := oSome h.own (by simp)
 obtain ⟨rfl, rfl⟩ : ao = some ⟨g, 0, none⟩ ∧ cap = cap' := by cases e1; exact ⟨rfl, rfl⟩
 clear e1
 have d1 := oCell h.own (j := 0) (u := .int .u8 48) rfl
 have d2 := oCell h.own (j := 1) (u := .int .i64 y) rfl
 simp only [List.length_cons, List.length_nil] at c0
 have H := hI h
 clear h
 go_enter Tryz.func192, Tryz.ntmps192
 go_wp2_with fail
 refine (of_any y _).mono ?_
 rintro e w1 ⟨rfl, hw1⟩
 obtain ⟨W1, hW1, B1, hbw1, hs1⟩ := one_new w1 #[.int .i64 0, .int .i64 0] 205
 have hw0 := hw1.size
 have Hb1 := hI (hw1.then hbw1)
 obtain ⟨r0, r1, z0, z1, l1⟩ := two_cells B1
 clear B1 hbw1 hw1 c0 d1 d2
 go_wp2_with fail
 go_ret
 have hb : Below w.heap.size w ((W1.setCell ⟨w1.heap.size, 0, none⟩ (.int .i64 0)).setCell ⟨w1.heap.size, 1, none⟩ (.int .i64 y)) := (Hb1.u.setCell (by simp; omega) _).setCell (by simp; omega) _
 exact ⟨rfl, H.u.below hb, hb.frm⟩
theorem workOut_two (b : Nat) (v : Value) (q : List Pt) (o s x y : Int) (w : World) (h : Cd w b v (q ++ [(s, x), (48, y)])) (hl : (q ++ [(s, x), (48, y)]).length ≤ 400) (hs : (s == 48) = false) (ho : (o == 126) = false) :
  Calls Tryz.prog 192 #[.pointer (some ⟨b, 0, none⟩), .int .u8 o] w fun e w' => e = .returned (.bool false) ∧ Cd w' b v (q ++ [(s, x), (48, y)]) ∧ Frm w.heap.size (XR b v) w w' := by
 obtain ⟨ao, cap, rfl⟩ := oForm h.own
 have c0 := h.blk.cell 0
 have hbl := h.blk.lt
 simp only [List.getElem?_toArray, List.getElem?_cons_zero] at c0
 obtain ⟨g, cap', e1, hg, hg'⟩ := oSome h.own (by simp)
 obtain ⟨rfl, rfl⟩ : ao = some ⟨g, 0, none⟩ ∧ cap = cap' := by cases e1; exact ⟨rfl, rfl⟩
 clear e1
 have d1 := oCell h.own (j := q.length * 2) (cellsP_at q (s, x) [(48, y)]).1
 have d2 := oCell h.own (j := q.length * 2 + 1) (cellsP_at q (s, x) [(48, y)]).2
 have happ : q ++ [(s, x), ((48 : Int), y)] = (q ++ [(s, x)]) ++ [(48, y)] := by simp
 have hc1 := cellsP_at (q ++ [(s, x)]) (48, y) []
 rw [← happ, show (q ++ [(s, x)]).length = q.length + 1 by simp] at hc1
 have d3 := oCell h.own (j := (q.length + 1) * 2) hc1.1
 have d4 := oCell h.own (j := (q.length + 1) * 2 + 1) hc1.2
 have hlen : (q ++ [(s, x), ((48 : Int), y)]).length = q.length + 1 + 1 := by simp
 rw [hlen] at c0
 have hq : q.length ≤ 398 := by simp at hl; omega
 have hs2 : ¬ s = 48 := by simpa using hs
 have H := hI h
 clear h hl happ hc1
 go_enter Tryz.func192, Tryz.ntmps192
 go_wp2_with fail
 refine (of_any y _).mono ?_
 rintro e w1 ⟨rfl, hw1⟩
 obtain ⟨W1, hW1, B1, hbw1, hs1⟩ := one_new w1 #[.int .i64 0, .int .i64 0] 205
 have hw0 := hw1.size
 have Hb1 := hI (hw1.then hbw1)
 obtain ⟨r0, r1, z0, z1, l1⟩ := two_cells B1
 have c0' := (H.u.below Hb1.u).blk.cell 0
 simp only [List.getElem?_toArray, List.getElem?_cons_zero, hlen] at c0'
 have d1' := (Hb1.u.cell (p := ⟨g, q.length * 2, none⟩) hg').trans d1
 have d2' := (Hb1.u.cell (p := ⟨g, q.length * 2 + 1, none⟩) hg').trans d2
 have n1 : ¬ b = w1.heap.size := by omega
 have n2 : ¬ g = w1.heap.size := by omega
 clear B1 hbw1 hw1 c0 d1 d2 d3 d4
 go_wp2_with fail
 rotate_left
 ·exfalso
  first | omega | simp_all
 go_ret
 have hb : Below w.heap.size w ((W1.setCell ⟨w1.heap.size, 0, none⟩ (.int .i64 0)).setCell ⟨w1.heap.size, 1, none⟩ (.int .i64 y)) := (Hb1.u.setCell (by simp; omega) _).setCell (by simp; omega) _
 exact ⟨rfl, H.u.below hb, hb.frm⟩
theorem fld_nil (p : Pt) : fld p [] = none := by
 unfold fld
 split
 ·rfl
 ·split <;> rfl
theorem snocP (ws : List Pt) : ws = [] ∨ ∃ q p, ws = q ++ [p] := by
 rcases List.eq_nil_or_concat ws with h | ⟨q, p, h⟩
 ·exact .inl h
 ·exact .inr ⟨q, p, by rw [h, List.concat_eq_append]⟩
theorem repl_some {c : Cl} {q x : List Pt} (h : c.2 = 0) : repl c q x = q ++ [(48, c.1)] := by unfold repl; rw [h]; rfl
theorem repl_none {c : Cl} {q x : List Pt} (h : ¬ c.2 = 0) : repl c q x = q ++ x := by unfold repl; rw [if_neg (by simpa using h)]
theorem workOut_any (b : Nat) (v : Value) (ws : List Pt) (p : Pt) (w : World) (h : Cd w b v ws) (hl : ws.length ≤ 400) (hr : ∀ x ∈ ws, inR x.2 = true) (ho : opdB p.1 = false) :
  Calls Tryz.prog 192 #[.pointer (some ⟨b, 0, none⟩), .int .u8 p.1] w fun e w' => ∃ v', e = .returned (.bool (fld p ws.reverse).isSome) ∧ Cd w' b v' ((fld p ws.reverse).getD ws.reverse).reverse ∧ Frm w.heap.size (XR b v) w w' := by
 have hbl := h.blk.lt
 rcases snocP ws with rfl | ⟨q, y, rfl⟩
 ·refine (workOut_no b v [] p.1 w h hl (by simp)).mono ?_
  rintro e w1 ⟨rfl, rfl⟩
  simp only [List.reverse_nil, fld_nil]
  exact ⟨v, rfl, h, Frm.refl _ _ _⟩
 ·obtain ⟨y1, y2⟩ := y
  by_cases hy : y1 = 48
  ·subst hy
   have hyr := hr (48, y2) (by simp)
   simp only at hyr
   by_cases h126 : p.1 = 126
   ·have e126 : (p.1 == 126) = true := by simp [h126]
    rw [h126]
    refine (workOut_neg b v q y2 w h hl hyr).mono ?_
    rintro e w1 ⟨v', rfl, hc, hb⟩
    have hf : fld p (q ++ [(48, y2)]).reverse = if (don 45 (0, 0) (y2, 0)).2 == 0 then some ((48, (don 45 (0, 0) (y2, 0)).1) :: q.reverse) else none := by
     unfold fld
     rw [ho, e126]
     simp
    refine ⟨v', ?_, ?_, hb⟩
    ·rw [hf]; cases ((don 45 (0, 0) (y2, 0)).2 == 0) <;> rfl
    ·rw [hf]
     by_cases h0 : (don 45 (0, 0) (y2, 0)).2 = 0
     ·rw [repl_some h0] at hc; rw [if_pos (by simpa using h0)]; simpa using hc
     ·rw [repl_none h0] at hc; rw [if_neg (by simpa using h0)]; simpa using hc
   ·have e126 : (p.1 == 126) = false := by simpa using h126
    rcases snocP q with rfl | ⟨q, x, rfl⟩
    ·refine (workOut_one b v p.1 y2 w (by simpa using h) e126).mono ?_
     rintro e w1 ⟨rfl, hc, hb⟩
     have hf : fld p ([] ++ [((48 : Int), y2)]).reverse = none := by unfold fld; rw [ho, e126]; rfl
     exact ⟨v, by rw [hf]; rfl, by rw [hf]; simpa using hc, hb⟩
    ·obtain ⟨x1, x2⟩ := x
     have happ : q ++ [(x1, x2)] ++ [((48 : Int), y2)] = q ++ [(x1, x2), (48, y2)] := by simp
     rw [happ] at h hl hr
     by_cases hx : x1 = 48
     ·subst hx
      have hxr := hr (48, x2) (by simp)
      simp only at hxr
      refine (workOut_bin b v q p.1 x2 y2 w h hl hxr hyr e126).mono ?_
      rintro e w1 ⟨v', rfl, hc, hb⟩
      have hf : fld p (q ++ [((48 : Int), x2)] ++ [((48 : Int), y2)]).reverse = if (don p.1 (x2, 0) (y2, 0)).2 == 0 then some ((48, (don p.1 (x2, 0) (y2, 0)).1) :: q.reverse) else none := by
       unfold fld
       rw [ho, e126]
       simp
      refine ⟨v', ?_, ?_, hb⟩
      ·rw [hf]; cases ((don p.1 (x2, 0) (y2, 0)).2 == 0) <;> rfl
      ·rw [hf]
       by_cases h0 : (don p.1 (x2, 0) (y2, 0)).2 = 0
       ·rw [repl_some h0] at hc; rw [if_pos (by simpa using h0)]; simpa using hc
       ·rw [repl_none h0] at hc; rw [if_neg (by simpa using h0)]; simpa using hc
     ·have ex : (x1 == 48) = false := by simpa using hx
      refine (workOut_two b v q p.1 x1 x2 y2 w h hl ex e126).mono ?_
      rintro e w1 ⟨rfl, hc, hb⟩
      have hf : fld p (q ++ [(x1, x2)] ++ [((48 : Int), y2)]).reverse = none := by
       unfold fld
       rw [ho, e126]
       simp [ex]
      exact ⟨v, by rw [hf]; rfl, by rw [hf]; simpa using hc, hb⟩
  ·have ey : (y1 == 48) = false := by simpa using hy
   refine (workOut_no b v _ p.1 w h hl ?_).mono ?_
   ·intro q' p' e
    have := List.append_inj' e rfl
    obtain ⟨_, e2⟩ := this
    simp at e2
    rw [← e2]; exact ey
   ·rintro e w1 ⟨rfl, rfl⟩
    have hf : fld p (q ++ [(y1, y2)]).reverse = none := by
     unfold fld
     rw [ho]
     simp only [List.reverse_append, List.reverse_cons, List.reverse_nil, List.nil_append, List.cons_append]
     cases (p.1 == 126) with
     | true => simp [ey]
     | false =>
      simp only [Bool.false_eq_true, if_false]
      cases q.reverse with
      | nil => rfl
      | cons x t => simp [ey]
    exact ⟨v, by rw [hf]; rfl, by rw [hf]; simpa using h, Frm.refl _ _ _⟩
theorem clay_any (b : Nat) (v : Value) (ws : List Pt) (s n : Int) (w : World) (h : Cd w b v ws) (hl : ws.length < 400) (hr : ∀ x ∈ ws, inR x.2 = true) :
  Calls Tryz.prog 149 #[.pointer (some ⟨b, 0, none⟩), .agg #[.int .u8 s, .int .i64 n]] w fun e w' => e = .returned (.tuple #[]) ∧ (∃ v', Cd w' b v' (lay ws.reverse (s, n)).reverse) ∧ Below b w w' := by
 obtain ⟨ii, hi, hz0, hz1, hz2⟩ := info_parts info_part
 have hbl := h.blk.lt
 cases ho : opdB s with
 | true =>
  have hf : fld (s, n) ws.reverse = none := by unfold fld; rw [if_pos ho]
  have Hfin : Hid (∀ (w' : World) (v' : Value), Cd w' b v' (ws ++ [(s, n)]) → Cd w' b v' (lay ws.reverse (s, n)).reverse) := by
   intro w' v' hc
   unfold lay; rw [hf]; simpa using hc
  have H := hI h
  clear h hf hr
  go_enter Tryz.func149, Tryz.ntmps149
  go_wp2_with fail
  refine (isOperand_any s n _).mono ?_
  rintro e w3 ⟨rfl, hb3⟩
  rw [ho]
  have Hb3 : Hid (Below b w w3) := (((Below.refl _ _).alloc (Nat.le_refl _) _).then' (by simp) hb3).mono (Nat.le_of_lt hbl)
  have HC3 := hI ((H.u.below ((Below.refl _ _).alloc (Nat.le_refl _) (.cells #[.int .u8 s, .int .i64 n] 197))).below hb3)
  have HX3 := hI ((Blk.new w #[.int .u8 s, .int .i64 n] 197).kept hb3)
  have hs3 := hb3.size
  simp at hs3
  clear hb3
  have hb3l := HC3.u.blk.lt
  obtain ⟨ao, cap, hvv⟩ := oForm HC3.u.own
  subst hvv
  have c0 := HC3.u.blk.cell 0
  have z0 := HC3.u.blk.frozen 0
  simp only [List.getElem?_toArray, List.getElem?_cons_zero] at c0
  obtain ⟨p0, p1, _, _, lp⟩ := two_cells HX3.u
  have Hown2 := hI HC3.u.own
  have Hnb : Hid (Blk (w3.alloc (.cells #[.int .u8 s, .int .i64 n] 197)) w3.heap.size #[.int .u8 s, .int .i64 n] 197) := Blk.new _ _ _
  have Hne : Hid (some b ≠ (Value.slice ao ws.length cap).ownBlock) := own_ne' HC3.u.own (Nat.lt_succ_self b)
  have hne1 : w3.heap.size ≠ b := by omega
  have hne2 : w3.heap.size ≠ w.heap.size := by omega
  go_upto_region 4 with fail
  go_region_law (refine step_append_lies _ rfl (.tmp 17) (.tmp 19) 163 rfl (b + 1) 197 ii (.agg #[.int .u8 0, .int .i64 0]) 2 16 Tryz.underlying163 hi hz0 hz1 hz2 rfl (by decide) (.slice ao ws.length cap) ws.length _ (by simp [Act.eval]) (by first | exact (Hown2.u.alloc _).drew | exact (Hown2.u.alloc _)) ⟨w3.heap.size, 0, none⟩ 1 1 [.int .u8 s, .int .i64 n] (by simp [Act.eval]) rfl (World.news_of_block (by exact Hnb.u)) (fun x hx => by simp at hx; rcases hx with rfl | rfl <;> rfl) (by decide) (by unfold maxLen; omega) (by omega) (by simp <;> omega) (w3.heap.size + 1) (by simp) ?_; intro g2 cap2 w5 hown5 hgr5 hat5 hlt5; have HB5 := hI (Blk.grown (cs := #[.slice ao ws.length cap]) (T := 226) (b := b) (by exact (HC3.u.blk.alloc _)) hgr5 Hne.u); have y2 := HB5.u.frozen 0; have y3 := HB5.u.cell 0; simp only [List.getElem?_toArray, List.getElem?_cons_zero] at y3; have Hown5 := hI hown5; have Hgr5 := hI hgr5; have Hat5 := hI hat5; clear hown5 hgr5 hat5)
  all_goals
   go_wp2_with fail
   go_end0
   refine ⟨rfl, ⟨_, Hfin.u _ _ (cd_pushed HB5.u Hown5.u)⟩, ?_⟩
   exact (((Hb3.u.alloc (by omega) _).drew).grown Hgr5.u (by simp; omega) (fun k hk => by have := (Hown2.u.lt k hk).1; omega)).setCell (Nat.le_refl b) _
 | false =>
  have Hwo := hI (fun (wx : World) (hb : Below w.heap.size w wx) => workOut_any b v ws (s, n) wx (h.below hb) (by omega) hr ho)
  have H := hI h
  obtain ⟨f, hf⟩ : ∃ f, fld (s, n) ws.reverse = f := ⟨_, rfl⟩
  have Hlay : Hid (lay ws.reverse (s, n) = f.getD ((s, n) :: ws.reverse)) := by show _ = _; unfold lay; rw [hf]
  rw [hf] at Hwo
  clear h hf hr
  go_enter Tryz.func149, Tryz.ntmps149
  go_wp2_with fail
  refine (isOperand_any s n _).mono ?_
  rintro e w2 ⟨rfl, hb2⟩
  rw [ho]
  have Hb2 : Hid (Below w.heap.size w w2) := ((Below.refl _ _).alloc (Nat.le_refl _) _).then' (by simp) hb2
  have HX2 := hI ((Blk.new w #[.int .u8 s, .int .i64 n] 197).kept hb2)
  obtain ⟨f0, f1, _, _, lf⟩ := two_cells HX2.u
  have hs2 := hb2.size
  simp at hs2
  clear hb2
  go_wp2_with fail
  refine (Hwo.u _ Hb2.u).mono ?_
  rintro e w3 ⟨v', rfl, hc3, hb3⟩
  have HX3 : Hid (Blk w3 w.heap.size #[.int .u8 s, .int .i64 n] 197) := HX2.u.frm hb3 (by omega) (by
   rintro (e | e)
   ·omega
   ·have := (H.u.own.lt _ e.symm).2; omega)
  have Hb3 : Hid (Below b w w3) := (Hb2.u.mono (Nat.le_of_lt hbl)).trans (hb3.below (by omega) (by
   rintro k hk (e | e)
   ·omega
   ·have := (H.u.own.lt _ e.symm).1; omega))
  have hs3 : w.heap.size + 1 ≤ w3.heap.size := by have := hb3.size; omega
  clear hb3 f0 f1 lf
  cases f with
  | some qs =>
   have Hc3 : Hid (Cd w3 b v' (lay ws.reverse (s, n)).reverse) := by rw [Hlay.u]; exact hc3
   clear hc3
   go_wp2_with fail
   refine bodyPost_ret (v := .tuple #[]) (by simp [results, Tryz.results149, go_sem]) rfl ⟨rfl, ⟨_, Hc3.u⟩, Hb3.u⟩
  | none =>
   have HC3 : Hid (Cd w3 b v' ws) := by show Cd _ _ _ _; simpa using hc3
   have Hfin : Hid (∀ (w' : World) (v' : Value), Cd w' b v' (ws ++ [(s, n)]) → Cd w' b v' (lay ws.reverse (s, n)).reverse) := by
    intro w' v' hc
    rw [Hlay.u]; simpa using hc
   clear hc3
   have hb3l := HC3.u.blk.lt
   obtain ⟨ao, cap, hvv⟩ := oForm HC3.u.own
   subst hvv
   have c0 := HC3.u.blk.cell 0
   have z0 := HC3.u.blk.frozen 0
   simp only [List.getElem?_toArray, List.getElem?_cons_zero] at c0
   obtain ⟨p0, p1, _, _, lp⟩ := two_cells HX3.u
   have Hown2 := hI HC3.u.own
   have Hnb : Hid (Blk (w3.alloc (.cells #[.int .u8 s, .int .i64 n] 197)) w3.heap.size #[.int .u8 s, .int .i64 n] 197) := Blk.new _ _ _
   have Hne : Hid (some b ≠ (Value.slice ao ws.length cap).ownBlock) := own_ne' HC3.u.own (Nat.lt_succ_self b)
   have hne1 : w3.heap.size ≠ b := by omega
   have hne2 : w3.heap.size ≠ w.heap.size := by omega
   go_upto_region 4 with fail
   go_region_law (refine step_append_lies _ rfl (.tmp 17) (.tmp 19) 163 rfl (b + 1) 197 ii (.agg #[.int .u8 0, .int .i64 0]) 2 16 Tryz.underlying163 hi hz0 hz1 hz2 rfl (by decide) (.slice ao ws.length cap) ws.length _ (by simp [Act.eval]) (by first | exact (Hown2.u.alloc _).drew | exact (Hown2.u.alloc _)) ⟨w3.heap.size, 0, none⟩ 1 1 [.int .u8 s, .int .i64 n] (by simp [Act.eval]) rfl (World.news_of_block (by exact Hnb.u)) (fun x hx => by simp at hx; rcases hx with rfl | rfl <;> rfl) (by decide) (by unfold maxLen; omega) (by omega) (by simp <;> omega) (w3.heap.size + 1) (by simp) ?_; intro g2 cap2 w5 hown5 hgr5 hat5 hlt5; have HB5 := hI (Blk.grown (cs := #[.slice ao ws.length cap]) (T := 226) (b := b) (by exact (HC3.u.blk.alloc _)) hgr5 Hne.u); have y2 := HB5.u.frozen 0; have y3 := HB5.u.cell 0; simp only [List.getElem?_toArray, List.getElem?_cons_zero] at y3; have Hown5 := hI hown5; have Hgr5 := hI hgr5; have Hat5 := hI hat5; clear hown5 hgr5 hat5)
   all_goals
    go_wp2_with fail
    go_end0
    refine ⟨rfl, ⟨_, Hfin.u _ _ (cd_pushed HB5.u Hown5.u)⟩, ?_⟩
    exact (((Hb3.u.alloc (by omega) _).drew).grown Hgr5.u (by simp; omega) (fun k hk => by have := (Hown2.u.lt k hk).1; omega)).setCell (Nat.le_refl b) _
end Go.Proofs.YtdchbenfccofpaaGreatDoor
namespace Db
open Go
def trm : List UInt8 → List UInt8
 | [] => []
 | [c] => [c]
 | c :: d :: r => if c.toNat = 48 then trm (d :: r) else c :: d :: r
theorem trm_zeros (z : List UInt8) (hz : ∀ c ∈ z, c.toNat = 48) (c : UInt8) : trm (z ++ [c]) = [c] := by
 induction z with
 | nil => rfl
 | cons x t ih =>
  have hx := hz x (by simp)
  have ih := ih (fun y hy => hz y (by simp [hy]))
  cases t with
  | nil => simp [trm, hx]
  | cons y r => simpa [trm, hx] using ih
theorem trm_snoc (ds : List UInt8) (h : ∃ x ∈ ds, ¬ x.toNat = 48) (c : UInt8) : trm (ds ++ [c]) = trm ds ++ [c] := by
 induction ds with
 | nil => obtain ⟨x, hx, _⟩ := h; cases hx
 | cons x t ih =>
   by_cases hx : x.toNat = 48
   · have h' : ∃ y ∈ t, ¬ y.toNat = 48 := by
       obtain ⟨y, hy, hn⟩ := h
       rw [List.mem_cons] at hy
       rcases hy with rfl | hy
       · exact absurd hx hn
       · exact ⟨y, hy, hn⟩
     have ih := ih h'
     cases t with
     | nil => obtain ⟨y, hy, _⟩ := h'; cases hy
     | cons y r => simpa [trm, hx] using ih
   · cases t with
     | nil => simp [trm, hx]
     | cons y r => simp [trm, hx]
theorem valGo_snoc' (l : List UInt8) (c : UInt8) : ∀ n, valGo n (l ++ [c]) = 10 * valGo n l + ((c.toNat : Int) - 48) := by
 induction l with
 | nil => intro n; rfl
 | cons x t ih => intro n; exact ih _
theorem val_zero (z : List UInt8) (hd : ∀ c ∈ z, digB c.toNat = true) (h : val z = 0) : ∀ c ∈ z, c.toNat = 48 := by
 have key : ∀ (z : List UInt8) (n : Int), 0 ≤ n → (∀ c ∈ z, digB c.toNat = true) → valGo n z = 0 → n = 0 ∧ ∀ c ∈ z, c.toNat = 48 := by
  intro z
  induction z with
  | nil => intro n _ _ h; exact ⟨h, by simp⟩
  | cons x t ih =>
   intro n hn hd h
   have hx := hd x (by simp)
   simp [digB] at hx
   have := ih (10 * n + ((x.toNat : Int) - 48)) (by omega) (fun c hc => hd c (by simp [hc])) h
   refine ⟨by omega, ?_⟩
   intro c hc
   rw [List.mem_cons] at hc
   rcases hc with rfl | hc
   ·omega
   ·exact this.2 c hc
 exact (key z 0 (by omega) hd h).2
theorem zero_val (z : List UInt8) (hz : ∀ c ∈ z, c.toNat = 48) : val z = 0 := by
 have : ∀ (z : List UInt8), (∀ c ∈ z, c.toNat = 48) → valGo 0 z = 0 := by
  intro z
  induction z with
  | nil => intro _; rfl
  | cons x t ih =>
   intro h
   have hx := h x (by simp)
   show valGo (10 * 0 + ((x.toNat : Int) - 48)) t = 0
   rw [hx]
   exact ih (fun c hc => h c (by simp [hc]))
 exact this z hz
theorem u8_of {c : UInt8} {n : Nat} (h : c.toNat = n) : UInt8.ofNat n = c := by rw [← h]; simp
theorem trm_dec (ds : List UInt8) (hn : ds ≠ []) (hd : ∀ c ∈ ds, digB c.toNat = true) : trm ds = Lib.decDigits (val ds).toNat := by
 have key : ∀ (r : List UInt8), (∀ c ∈ r, digB c.toNat = true) → r ≠ [] → trm r.reverse = Lib.decDigits (val r.reverse).toNat := by
   intro r
   induction r with
   | nil => intro _ h; exact absurd rfl h
   | cons c t ih =>
     intro hd _
     have hc := hd c (by simp)
     simp [digB] at hc
     have hdt : ∀ x ∈ t.reverse, digB x.toNat = true := fun x hx => hd x (by simp at hx; simp [hx])
     have hv : val (t.reverse ++ [c]) = 10 * val t.reverse + ((c.toNat : Int) - 48) := valGo_snoc' t.reverse c 0
     have hp := val_pos t.reverse hdt
     rw [List.reverse_cons]
     by_cases h0 : val t.reverse = 0
     · rw [trm_zeros _ (val_zero _ hdt h0), hv, h0, Lib.decDigits_one (by omega)]
       rw [u8_of (c := c) (by omega)]
     · have hex : ∃ x ∈ t.reverse, ¬ x.toNat = 48 := by
         apply Classical.byContradiction
         intro hne
         refine h0 (zero_val _ (fun x hx => ?_))
         apply Classical.byContradiction
         intro hx48
         exact hne ⟨x, hx, hx48⟩
       have htn : t ≠ [] := by intro e; subst e; obtain ⟨x, hx, _⟩ := hex; cases hx
       rw [trm_snoc _ hex, ih (fun x hx => hd x (by simp [hx])) htn, hv]
       have e1 : (10 * val t.reverse + ((c.toNat : Int) - 48)).toNat = 10 * (val t.reverse).toNat + (c.toNat - 48) := by omega
       rw [e1]
       conv => rhs; rw [Lib.decDigits]
       rw [dif_neg (by omega)]
       have e2 : (10 * (val t.reverse).toNat + (c.toNat - 48)) / 10 = (val t.reverse).toNat := by omega
       have e3 : (10 * (val t.reverse).toNat + (c.toNat - 48)) % 10 = c.toNat - 48 := by omega
       rw [e2, e3, u8_of (c := c) (by omega)]
 have := key ds.reverse (fun c hc => hd c (by simpa using hc)) (by simpa using hn)
 simpa using this
def u8 (s : Int) : UInt8 := UInt8.ofNat s.toNat
theorem u8_toNat (c : UInt8) : u8 (c.toNat : Int) = c := by simp [u8]
abbrev Pc := List UInt8 × Nat
def brk (p : Pc) (least : Nat) : List UInt8 := if p.2 < least then 40 :: (p.1 ++ [41]) else p.1
def rkS (o : Int) : Nat := if o == 42 || o == 47 then 2 else 1
def wordP (p : Pt) : List UInt8 := if p.1 == 48 then Lib.itoa p.2 else u8 p.1 :: Lib.itoa p.2
def sEval : List Pt → List Pc → List Pc
 | [], st => st
 | p :: r, st => if opdB p.1 then sEval r ((wordP p, 3) :: st) else if p.1 == 126 then
     match st with
     | x :: t => sEval r ((45 :: brk x 3, 3) :: t)
     | [] => []
   else match st with
     | y :: x :: t => sEval r ((brk x (rkS p.1) ++ u8 p.1 :: brk y (rkS p.1 + 1), rkS p.1) :: t)
     | _ => st
def ShowR (ps : List Pt) (x : Pc) : Prop := ∀ q st, sEval (ps ++ q) st = sEval q (x :: st)
theorem ShowR.uniq {ps : List Pt} {x y : Pc} (h : ShowR ps x) (k : ShowR ps y) : x = y := by
 have h1 := h [] []
 have h2 := k [] []
 rw [h1] at h2
 simpa [sEval] using h2
theorem showR_leaf {p : Pt} (h : opdB p.1 = true) : ShowR [p] (wordP p, 3) := fun q st => by simp [sEval, h]
theorem showR_neg {ps : List Pt} {x : Pc} (h : ShowR ps x) : ShowR (ps ++ [(126, 0)]) (45 :: brk x 3, 3) := fun q st => by
 rw [List.append_assoc, h]; simp [sEval, opdB, selB, oldB]
theorem showR_bin {p q : List Pt} {x y : Pc} {o : Int} (ho : opB o = true) (hp : ShowR p x) (hq : ShowR q y) : ShowR (p ++ q ++ [(o, 0)]) (brk x (rkS o) ++ u8 o :: brk y (rkS o + 1), rkS o) := fun r st => by
 rw [List.append_assoc, List.append_assoc, hp, hq]
 have := opd_op ho
 simp [sEval, this.1, this.2]
def rkO (o : Int) : Nat := if o == 43 || o == 45 then 1 else if o == 42 || o == 47 then 2 else 3
theorem rkO_op {o : Int} (h : opB o = true) : rkO o = rkS o := by
 simp [opB] at h; rcases h with ((rfl | rfl) | rfl) | rfl <;> rfl
theorem wf_show {n : Nat} : ∀ {e : List UInt8} {ps : List Pt}, Wf n e ps → ∃ x, ShowR ps x := by
 induction n with
 | zero => intro e ps h; exact absurd h (by simp [Wf])
 | succ n ih =>
  intro e ps h
  rcases h with ⟨_, h⟩ | ⟨_, h2⟩ | ⟨_, p, h2, rfl⟩ | ⟨h1, p, r, h2, h3, rfl⟩
  ·obtain ⟨p, rfl, hp⟩ := opnd_opd h
   exact ⟨_, showR_leaf hp⟩
  ·exact ih h2
  ·obtain ⟨x, hx⟩ := ih h2
   exact ⟨_, showR_neg hx⟩
  ·obtain ⟨x, hx⟩ := ih h2
   obtain ⟨y, hy⟩ := ih h3
   exact ⟨_, showR_bin h1 hx hy⟩
theorem opnd_word {e : List UInt8} {p : Pt} (h : Opnd e [p]) : wordP p = (if digB (hd e) then trm e else e.take 1 ++ trm (e.drop 1)) ∧ 1 ≤ e.length := by
 rcases h with ⟨h1, _, hd1, he⟩ | ⟨c, ds, rfl, h1, hd1, hs, he⟩
 ·simp at he
  subst he
  have hn : e ≠ [] := by intro e0; subst e0; simp at h1
  refine ⟨?_, h1⟩
  have hh : digB (hd e) = true := by
   cases e with
   | nil => exact absurd rfl hn
   | cons c r => exact hd1 c (by simp)
  have hp := val_pos e hd1
  rw [hh, if_pos rfl, trm_dec e hn hd1]
  unfold wordP
  show Lib.itoa (val e) = _
  rw [Lib.itoa, if_neg (by omega)]
 ·simp at he
  subst he
  refine ⟨?_, by simp⟩
  have hcd : digB (c.toNat : Int) = false := by
   rcases hs with ⟨hs, _⟩ | ⟨hs, _⟩
   ·exact (sel_c hs).2.2.2
   ·exact (old_c hs).2.2.2.1
  have hn : ds ≠ [] := by intro e0; subst e0; simp at h1
  have hp := val_pos ds hd1
  have h48 : ((c.toNat : Int) == 48) = false := by
   rw [beq_eq_false_iff_ne]; intro e0; rw [e0] at hcd; cases hcd
  unfold wordP
  simp only [hd, hcd, h48]
  simp only [Bool.false_eq_true, if_false]
  rw [Lib.itoa, if_neg (by omega), u8_toNat, List.drop_one, List.tail_cons, trm_dec ds hn hd1]
  simp
end Db
namespace Go.Proofs.YtdchbenfccofpaaGreatDoor
open Go.RowKit Db
theorem signText_any (s : UInt8) (w : World) :
  Calls Tryz.prog 190 #[.int .u8 (s.toNat : Int)] w fun e w' => ∃ u : ByteArray, e = .returned (.string u) ∧ L u = [s] ∧ Below w.heap.size w w' := by
 have hcv : (convert 187 9 (.slice (some ⟨w.heap.size, 0, none⟩) 1 1)).run Tryz.prog (w.alloc (.cells #[.int .u8 (s.toNat : Int)] 5)) = .ok (.string ⟨#[s]⟩) (w.alloc (.cells #[.int .u8 (s.toNat : Int)] 5)) := by
  have := run_convert_bytes_back (P := Tryz.prog) (w.alloc (.cells #[.int .u8 (s.toNat : Int)] 5)) 187 9 5 ⟨w.heap.size, 0, none⟩ 1 [s] Tryz.underlying187 Tryz.underlying5 Tryz.underlying9 (fun j hj => by
   have h0 : j = 0 := by simpa using hj
   subst h0
   exact cell_one_new w _ _ 0 _ rfl)
  exact this
 go_enter Tryz.func190, Tryz.ntmps190
 go_wp2_with fail
 go_ret
 exact ⟨⟨#[s]⟩, rfl, rfl, (Below.refl _ _).alloc (Nat.le_refl _) _⟩
theorem bracketed_any (x : ByteArray) (r : Nat) (k : Int) (w : World) (hx : x.size ≤ 1000000) :
  Calls Tryz.prog 191 #[.agg #[.string x, .int .i64 (r : Int)], .int .i64 k] w fun e w' => ∃ u : ByteArray, e = .returned (.string u) ∧ L u = brk (L x, r) k.toNat ∧ Below w.heap.size w w' := by
 by_cases h : (r : Int) < k
 ·have Hb : Hid (brk (L x, r) k.toNat = 40 :: (L x ++ [41])) := by show _ = _; unfold brk; rw [if_pos (by simp; omega)]
  go_enter Tryz.func191, Tryz.ntmps191
  go_wp2_with fail
  go_ret
  refine ⟨_, rfl, ?_, (Below.refl _ _).alloc (Nat.le_refl _) _⟩
  rw [Hb.u]; simp [L]
 ·have Hb : Hid (brk (L x, r) k.toNat = L x) := by show _ = _; unfold brk; rw [if_neg (by simp; omega)]
  go_enter Tryz.func191, Tryz.ntmps191
  go_wp2_with fail
  go_ret
  exact ⟨x, rfl, Hb.u.symm, (Below.refl _ _).alloc (Nat.le_refl _) _⟩
def wordC (p : Pt) : List UInt8 := if p.1 == 48 then Lib.itoa p.2 else if opdB p.1 then u8 p.1 :: Lib.itoa p.2 else [u8 p.1]
def sgB (s : Int) : Bool := opdB s || opB s || s == 126
theorem sg_u8 {s : Int} (h : sgB s = true) : s = ((u8 s).toNat : Int) := by
 simp [sgB, opdB, opB, selB, oldB] at h
 rcases h with (((rfl | (rfl | rfl) | rfl) | rfl | rfl) | ((rfl | rfl) | rfl) | rfl) | rfl <;> rfl
theorem wordC_len {p : Pt} (h : inR p.2 = true) : (wordC p).length ≤ 22 := by
 have hr := inR_iff.1 h
 have := Lib.itoa_length_le p.2 hr.1 hr.2
 unfold wordC
 split
 ·omega
 ·split
  ·rw [List.length_cons]; omega
  ·simp
theorem cword_any (s n : Int) (w : World) (hs : sgB s = true) (hin : inR n = true) (ht : Tab w) :
  Calls Tryz.prog 146 #[.agg #[.int .u8 s, .int .i64 n]] w fun e w' => ∃ u : ByteArray, e = .returned (.string u) ∧ L u = wordC (s, n) ∧ u.size ≤ 22 ∧ Below w.heap.size w w' := by
 have hr := inR_iff.1 hin
 have Hlen := hI (wordC_len (p := (s, n)) hin)
 have Ht := hI ht
 by_cases h48 : s = 48
 ·subst h48
  clear ht hs hin
  go_enter Tryz.func146, Tryz.ntmps146
  go_wp2_with fail
  refine (itoa_any n _ hr.1 hr.2 (Ht.u.below (by exact (Below.refl _ _).alloc (Nat.le_refl _) _))).mono ?_
  rintro e w1 ⟨u, rfl, hu, hb⟩
  have Hu := hI hu
  have Hb : Hid (Below w.heap.size w w1) := ((Below.refl _ _).alloc (Nat.le_refl _) _).then' (by simp) hb
  clear hu hb
  go_wp2_with fail
  go_ret
  exact ⟨u, rfl, Hu.u, by rw [size_L, Hu.u]; exact Hlen.u, Hb.u⟩
 ·have n48 : (s == 48) = false := by simpa using h48
  obtain ⟨c, hc⟩ : ∃ c : UInt8, u8 s = c := ⟨_, rfl⟩
  have hss := sg_u8 hs
  rw [hc] at hss
  obtain ⟨o, ho⟩ : ∃ o, opdB s = o := ⟨_, rfl⟩
  have HW : Hid (wordC (s, n) = if o then c :: Lib.itoa n else [c]) := by show _ = _; unfold wordC; simp only [n48, ho, hc]; rfl
  have Hio := hI (fun wx : World => isOperand_any s n wx)
  rw [ho] at Hio
  have HL : Hid (∀ u : ByteArray, L u = wordC (s, n) → u.size ≤ 22) := fun u hu => by rw [size_L, hu]; exact Hlen.u
  obtain ⟨wc, hwc⟩ : ∃ wc, wordC (s, n) = wc := ⟨_, rfl⟩
  rw [hwc] at HW HL ⊢
  clear h48 hs ht hin ho hc hwc Hlen
  subst hss
  go_enter Tryz.func146, Tryz.ntmps146
  go_wp2_with fail
  refine (signText_any c _).mono ?_
  rintro e w1 ⟨u1, rfl, hu1, hb1⟩
  have f0 := hb1.cell (p := ⟨w.heap.size, 0, none⟩) (by simp)
  have f1 := hb1.cell (p := ⟨w.heap.size, 1, none⟩) (by simp)
  have hb1s := hb1.size
  simp at f0 f1 hb1s
  have hs1 : u1.size ≤ 1 := by rw [size_L, hu1]; exact Nat.le_refl _
  have Hu1 := hI hu1
  have Hb1 : Hid (Below w.heap.size w w1) := ((Below.refl _ _).alloc (Nat.le_refl _) _).then' (by simp) hb1
  clear hu1 hb1
  go_wp2_with fail
  refine (Hio.u _).mono ?_
  rintro e w2 ⟨rfl, hb2⟩
  have g1 := hb2.cell (p := ⟨w.heap.size, 1, none⟩) (by show w.heap.size < _; omega)
  rw [f1] at g1
  have hb2s := hb2.size
  have Hb2 := hI (Hb1.u.then hb2)
  clear hb2 f0 f1 Hio
  cases o with
  | true =>
   go_wp2_with fail
   refine (itoa_any n _ hr.1 hr.2 (Ht.u.below Hb2.u)).mono ?_
   rintro e w3 ⟨u3, rfl, hu3, hb3⟩
   have hs3 := itoa_size hr.1 hr.2 hu3
   have Hu3 := hI hu3
   have Hb3 := hI (Hb2.u.then hb3)
   clear hu3 hb3
   go_wp2_with fail
   go_ret
   have hL : L (u1 ++ u3) = wc := by rw [L_append, Hu1.u, Hu3.u, HW.u]; rfl
   exact ⟨_, rfl, hL, HL.u _ hL, Hb3.u⟩
  | false =>
   go_wp2_with fail
   go_ret
   have hL : L u1 = wc := by rw [Hu1.u, HW.u]; rfl
   exact ⟨_, rfl, hL, HL.u _ hL, Hb2.u⟩
def codT (ps : List Pt) : List UInt8 := jn 32 ((cod ps).reverse.map wordC)
def PtS (p : Pt) : Prop := sgB p.1 = true ∧ inR p.2 = true
theorem Cd.drop {w w' : World} {b : Nat} {v : Value} {ws : List Pt} (h : Cd w b v ws) (hb : Below w.heap.size w w') : Cd w' b v ws := h.below hb
theorem fold_take {ps : List Pt} {j : Nat} {p : Pt} (h : ps[j]? = some p) : (ps.take (j + 1)).foldl lay [] = lay ((ps.take j).foldl lay []) p := by
 rw [List.take_add_one, h]
 simp
theorem compileRow_any (vp : Value) (ps : List Pt) (B : Nat) (w : World) (hp : w.ownsRow B 197 2 vp ps.length (cellsP ps)) (hps : ∀ p ∈ ps, PtS p) (hpl : ps.length ≤ 200) (ht : Tab w) :
  Calls Tryz.prog 108 #[.agg #[vp]] w fun e w' => ∃ u : ByteArray, e = .returned (.string u) ∧ L u = codT ps ∧ u.size ≤ 4600 ∧ Below w.heap.size w w' := by
 obtain ⟨aop, capp, rfl⟩ := oForm hp
 have Hp := hI hp
 have Hall : Hid (∀ j, ∀ x ∈ (ps.take j).foldl lay [], PtS x) := fun j => all_cod (P := PtS) (fun v hv => ⟨rfl, hv⟩) _ (by simp) (fun x hx => hps x (List.mem_of_mem_take hx))
 have Hlen : Hid (∀ j, ((ps.take j).foldl lay []).length ≤ 200) := fun j => by
  have := len_cod (ps.take j) []
  have h2 := List.length_take_le' j ps
  simp only [List.length_nil] at this
  omega
 have Ht := hI ht
 have Hst : Hid (Cd ((w.alloc (.cells #[.slice aop ps.length capp] 165)).alloc (.cells #[.slice none 0 0] 226)) (w.heap.size + 1) (.slice none 0 0) []) := by
  refine ⟨?_, World.ownsRow_nil _ _ _ _⟩
  have := Blk.new (w.alloc (.cells #[.slice aop ps.length capp] 165)) #[.slice none 0 0] 226
  simpa using this
 clear hp hps ht
 go_enter Tryz.func108, Tryz.ntmps108
 go_wp2_with fail
 go_loopg [14] ps.length (fun m i wr => ∃ j : Nat, ∃ v, j ≤ ps.length ∧ m = ps.length - j ∧ i = .int .i64 j ∧ w.heap.size + 2 ≤ wr.heap.size ∧ Hid (Cd wr (w.heap.size + 1) v ((ps.take j).foldl lay []).reverse) ∧ Hid (Below w.heap.size w wr))
 case atStart => exact ⟨0, .slice none 0 0, by omega, rfl, rfl, by simp, Hst.u, ((Below.refl _ _).alloc (Nat.le_refl _) _).alloc (by simp) _⟩
 case round =>
  obtain ⟨j, v, hj, rfl, rfl, hsz, HC, Hb⟩ := hrel
  by_cases hlt : j < ps.length
  ·obtain ⟨⟨s, n⟩, hpj⟩ : ∃ p, ps[j]? = some p := ⟨ps[j], List.getElem?_eq_getElem hlt⟩
   obtain ⟨g2, _, e1, hg2, hg2'⟩ := oSome Hp.u (by omega)
   simp only [Value.slice.injEq, true_and] at e1
   obtain ⟨rfl, rfl⟩ := e1
   have hc := two_get (fun p : Pt => Value.int .u8 p.1) (fun p => Value.int .i64 p.2) ps j (s, n) hpj
   have hro := oBelow Hp.u Hb.u
   have d1 := oCell hro (j := j * 2) hc.1
   have d2 := oCell hro (j := j * 2 + 1) hc.2
   have Hft := hI (fold_take hpj)
   have Hlay : Hid (∀ o : Obj, Calls Tryz.prog 149 #[.pointer (some ⟨w.heap.size + 1, 0, none⟩), .agg #[.int .u8 s, .int .i64 n]] (wr.alloc o) fun e w' => e = .returned (.tuple #[]) ∧ (∃ v', Cd w' (w.heap.size + 1) v' ((ps.take (j + 1)).foldl lay []).reverse) ∧ Below (w.heap.size + 1) (wr.alloc o) w') := by
    intro o
    have h1 := Hlen.u j
    have := clay_any (w.heap.size + 1) v _ s n (wr.alloc o) (HC.u.below ((Below.refl _ _).alloc (Nat.le_refl _) o)) (by rw [List.length_reverse]; omega) (fun x hx => (Hall.u j x (by simpa using hx)).2)
    rw [List.reverse_reverse, ← Hft.u] at this
    exact this
   simp only at d1 d2
   clear hro hc hpj
   go_wp2_with fail
   refine (Hlay.u _).mono ?_
   rintro e w2 ⟨rfl, ⟨v', hc2⟩, hb2⟩
   have HC2 := hI hc2
   have Hb2 := hI ((Hb.u.alloc (by omega) _).trans (hb2.mono (by omega)))
   have hsz2 := hb2.size
   simp at hsz2
   clear hc2 hb2 Hlay
   go_wp2_with fail
   go_roundg (ps.length - (j + 1))
   case measure => omega
   case rel => exact ⟨j + 1, v', by omega, rfl, by go_num, by omega, HC2.u, Hb2.u⟩
  ·obtain rfl : j = ps.length := by omega
   have hal := Hall.u ps.length
   have hln := Hlen.u ps.length
   rw [List.take_length] at HC hal hln
   obtain ⟨ws, hws⟩ : ∃ ws, (ps.foldl lay []).reverse = ws := ⟨_, rfl⟩
   have Hws : Hid (codT ps = jn 32 (ws.map wordC)) := by show _ = _; unfold codT cod; rw [hws]
   have HA : Hid (∀ x ∈ ws, PtS x) := by intro x hx; rw [← hws] at hx; exact hal x (by simpa using hx)
   have hwl : ws.length ≤ 200 := by rw [← hws, List.length_reverse]; exact hln
   rw [hws] at HC
   obtain ⟨W, hW⟩ : ∃ W, wr = W := ⟨_, rfl⟩
   rw [hW] at HC Hb hsz ⊢
   obtain ⟨aow, capw, rfl⟩ := oForm HC.u.own
   have c0 := HC.u.blk.cell 0
   simp only [List.getElem?_toArray, List.getElem?_cons_zero] at c0
   clear hal hln hws hW
   go_wp2_with fail
   go_loopg [6, 27] ws.length (fun m tv i wx => ∃ k : Nat, ∃ u : ByteArray, k ≤ ws.length ∧ m = ws.length - k ∧ i = .int .i64 k ∧ tv = .string u ∧ u.size ≤ 23 * k ∧ Hid (L u = jn 32 ((ws.map wordC).take k)) ∧ Hid (Below W.heap.size W wx))
   case atStart => exact ⟨0, ⟨#[]⟩, by omega, rfl, rfl, rfl, Nat.zero_le _, rfl, Below.refl _ _⟩
   case round =>
    obtain ⟨k, u, hk, rfl, rfl, rfl, hus, Hu, Hbx⟩ := hrel
    have hszx := Hbx.u.size
    by_cases hlk : k < ws.length
    ·obtain ⟨⟨s, n⟩, hpk⟩ : ∃ p, ws[k]? = some p := ⟨ws[k], List.getElem?_eq_getElem hlk⟩
     have hro := oBelow HC.u.own Hbx.u
     obtain ⟨g2, _, e1, hg2, hg2'⟩ := oSome hro (by omega)
     simp only [Value.slice.injEq, true_and] at e1
     obtain ⟨rfl, rfl⟩ := e1
     have hc := two_get (fun p : Pt => Value.int .u8 p.1) (fun p => Value.int .i64 p.2) ws k (s, n) hpk
     have d1 := oCell hro (j := k * 2) hc.1
     have d2 := oCell hro (j := k * 2 + 1) hc.2
     have hpt := HA.u (s, n) (List.mem_of_getElem? hpk)
     have Hxc : Hid ((ws.map wordC)[k]? = some (wordC (s, n))) := by show _ = _; rw [List.getElem?_map, hpk]; rfl
     have hbw : Below w.heap.size w wr := Hb.u.then' Hb.u.size Hbx.u
     have Hcw := hI (fun (o : Obj) => cword_any s n (wr.alloc o) hpt.1 hpt.2 (Ht.u.below (hbw.alloc hbw.size o)))
     simp only at d1 d2
     clear hro hc hpk hpt hbw
     by_cases hk0 : k = 0
     ·have hk1 : ¬ (0 : Int) < (k : Int) := by omega
      have Hk0 := hI hk0
      clear hk0
      go_wp2_with fail
      refine (Hcw.u _).mono ?_
      rintro e w6 ⟨u6, rfl, hu6, hs6, hb6⟩
      have Hu6 : Hid (L (u ++ u6) = jn 32 ((ws.map wordC).take (k + 1))) := by
       show _ = _
       rw [L_append, Hu.u, hu6, jn_pre Hxc.u, Hk0.u, jpre_zero]; simp [jn]
      have Hs6 : Hid ((u ++ u6).size ≤ 23 * (k + 1)) := by
       show _ ≤ _
       rw [size_app]; omega
      have Hb6 := hI ((Hbx.u.alloc hszx _).then' (by simp; omega) hb6)
      clear hu6 hb6
      go_wp2_with fail
      go_roundg (ws.length - (k + 1))
      case measure => omega
      case rel => exact ⟨k + 1, _, by omega, rfl, by go_num, rfl, Hs6.u, Hu6.u, Hb6.u⟩
     ·have hk1 : (0 : Int) < (k : Int) := by omega
      go_wp2_with fail
      refine (Hcw.u _).mono ?_
      rintro e w6 ⟨u6, rfl, hu6, hs6, hb6⟩
      have Hu6 : Hid (L (u ++ ⟨#[32]⟩ ++ u6) = jn 32 ((ws.map wordC).take (k + 1))) := by
       show _ = _
       rw [L_append, L_append, Hu.u, hu6, jn_pre Hxc.u, jpre_pos (sep := 32) (i := k) (by omega), show L ⟨#[32]⟩ = [32] from rfl]
      have Hs6 : Hid ((u ++ ⟨#[32]⟩ ++ u6).size ≤ 23 * (k + 1)) := by
       show _ ≤ _
       rw [size_app, size_app]; show u.size + 1 + u6.size ≤ _; omega
      have Hb6 := hI ((Hbx.u.alloc hszx _).then' (by simp; omega) hb6)
      clear hu6 hb6
      go_wp2_with fail
      go_roundg (ws.length - (k + 1))
      case measure => omega
      case rel => exact ⟨k + 1, _, by omega, rfl, by go_num, rfl, Hs6.u, Hu6.u, Hb6.u⟩
    ·obtain rfl : k = ws.length := by omega
     have Hfin : Hid (L u = codT ps) := by
      show _ = _
      rw [Hu.u, Hws.u, List.take_of_length_le (by simp)]
     go_wp2_with fail
     go_ret
     exact ⟨u, rfl, Hfin.u, by omega, Hb.u.then' Hb.u.size Hbx.u⟩
end Go.Proofs.YtdchbenfccofpaaGreatDoor
namespace Db
open Go
theorem valGo_app (l : List UInt8) (c : UInt8) : ∀ n, valGo n (l ++ [c]) = 10 * valGo n l + ((c.toNat : Int) - 48) := by
 induction l with
 | nil => intro n; rfl
 | cons x t ih => intro n; exact ih _
theorem ofNat_dig {d : Nat} (h : d < 10) : (UInt8.ofNat (48 + d)).toNat = 48 + d := by simp; omega
theorem dec_facts (u : Nat) : (∀ c ∈ Lib.decDigits u, digB c.toNat = true) ∧ val (Lib.decDigits u) = u ∧ Lib.decDigits u ≠ [] ∧ (1 ≤ u → 10 ^ ((Lib.decDigits u).length - 1) ≤ u ∧ ∃ c t, Lib.decDigits u = c :: t ∧ ¬ c.toNat = 48) := by
 induction u using Nat.strongRecOn with
 | ind u ih =>
  by_cases h : u < 10
  ·rw [Lib.decDigits_one h]
   have hd := ofNat_dig h
   refine ⟨?_, ?_, by simp, ?_⟩
   ·intro c hc
    simp only [List.mem_singleton] at hc
    subst hc
    rw [hd]; unfold digB; simp; omega
   ·show 10 * 0 + (((UInt8.ofNat (48 + u)).toNat : Int) - 48) = u
    rw [hd]; omega
   ·intro h1
    refine ⟨by simpa using h1, _, [], rfl, ?_⟩
    rw [hd]; omega
  ·obtain ⟨h1, h2, h3, h4⟩ := ih (u / 10) (by omega)
   obtain ⟨h5, c, t, h6, h7⟩ := h4 (by omega)
   have hd := ofNat_dig (d := u % 10) (by omega)
   have he : Lib.decDigits u = Lib.decDigits (u / 10) ++ [UInt8.ofNat (48 + u % 10)] := by rw [Lib.decDigits, dif_neg h]
   rw [he]
   refine ⟨?_, ?_, by simp, fun _ => ⟨?_, c, t ++ [UInt8.ofNat (48 + u % 10)], by rw [h6]; rfl, h7⟩⟩
   ·intro x hx
    simp only [List.mem_append, List.mem_singleton] at hx
    rcases hx with hx | rfl
    ·exact h1 x hx
    ·rw [hd]; unfold digB; simp; omega
   ·unfold val at h2 ⊢
    rw [valGo_app, h2, hd]; omega
   ·have hl : 1 ≤ (Lib.decDigits (u / 10)).length := by rw [h6]; simp
    rw [List.length_append, List.length_singleton, Nat.add_sub_cancel]
    obtain ⟨m, hm⟩ : ∃ m, (Lib.decDigits (u / 10)).length = m + 1 := ⟨(Lib.decDigits (u / 10)).length - 1, by omega⟩
    rw [hm] at h5 ⊢
    rw [Nat.add_sub_cancel] at h5
    rw [Nat.pow_succ]
    omega
theorem dec_len {u : Nat} (h : u ≤ 9223372036854775808) : (Lib.decDigits u).length ≤ 19 := by
 by_cases h0 : u = 0
 ·subst h0; rw [Lib.decDigits_one (by omega)]; decide
 ·have h1 := ((dec_facts u).2.2.2 (by omega)).1
  rcases Nat.lt_or_ge 19 (Lib.decDigits u).length with h2 | h2
  ·exfalso
   have h3 : 10 ^ 19 ≤ 10 ^ ((Lib.decDigits u).length - 1) := Nat.pow_le_pow_right (by omega) (by omega)
   have : (10 : Nat) ^ 19 = 10000000000000000000 := by decide
   omega
  ·exact h2
end Db
namespace Db
open Go Go.Proofs.YtdchbenfccofpaaGreatDoor
def negW (l : List UInt8) : Bool := match l with | c :: _ => c.toNat == 45 | [] => false
def dgW (l : List UInt8) : List UInt8 := if negW l then l.drop 1 else l
def badW (neg : Bool) (s : List UInt8) : Bool := match s with | [] => true | c :: t => decide (19 < s.length) || (c.toNat == 48 && (neg || !t.isEmpty))
def whl (l : List UInt8) : Int × Bool :=
 if badW (negW l) (dgW l) then (0, false) else if (dgW l).all (fun c => digB c.toNat) then (IntKind.i64.wrap (sg (negW l) (val (dgW l)).toNat), inR (sg (negW l) (val (dgW l)).toNat)) else (0, false)
theorem whl_itoa {n : Int} (h : inR n = true) : whl (Lib.itoa n) = (n, true) := by
 have hr := inR_iff.1 h
 by_cases hn : n < 0
 ·obtain ⟨u, hu⟩ : ∃ u : Nat, n = -(u : Int) := ⟨n.natAbs, by omega⟩
  subst hu
  rw [Lib.itoa_neg u (by omega)]
  obtain ⟨h1, h2, h3, h4⟩ := dec_facts u
  obtain ⟨_, c, t, h6, h7⟩ := h4 (by omega)
  have hl := dec_len (u := u) (by omega)
  have hneg : negW (45 :: Lib.decDigits u) = true := rfl
  have hdg : dgW (45 :: Lib.decDigits u) = Lib.decDigits u := by unfold dgW; rw [hneg]; rfl
  unfold whl
  rw [hneg, hdg, h2]
  have hb : badW true (Lib.decDigits u) = false := by
   rw [h6] at hl ⊢
   unfold badW
   simp only [List.length_cons] at hl ⊢
   have h8 : (c.toNat == 48) = false := by simpa using h7
   rw [h8]
   simp; omega
  have ha : ((Lib.decDigits u).all fun c => digB c.toNat) = true := by rw [List.all_eq_true]; exact fun c hc => h1 c hc
  rw [hb, ha]
  simp only [Bool.false_eq_true, if_false, if_true, Int.toNat_natCast]
  have hs : sg true u = -(u : Int) := rfl
  rw [hs, h, Go.Proofs.YtdchbenfccofpaaGreatDoor.wrapIn h]
 ·obtain ⟨u, rfl⟩ : ∃ u : Nat, n = (u : Int) := ⟨n.toNat, by omega⟩
  rw [Lib.itoa_nonneg]
  obtain ⟨h1, h2, h3, h4⟩ := dec_facts u
  have hl := dec_len (u := u) (by omega)
  obtain ⟨c, t, h6⟩ : ∃ c t, Lib.decDigits u = c :: t := by
   cases hd : Lib.decDigits u with
   | nil => exact absurd hd h3
   | cons c t => exact ⟨c, t, rfl⟩
  have hc := h1 c (by rw [h6]; simp)
  have hneg : negW (Lib.decDigits u) = false := by
   rw [h6]
   unfold negW
   simp only
   have := hc
   unfold digB at this
   simp at this
   simp; omega
  have hdg : dgW (Lib.decDigits u) = Lib.decDigits u := by unfold dgW; rw [hneg]; rfl
  unfold whl
  rw [hneg, hdg, h2]
  have hb : badW false (Lib.decDigits u) = false := by
   by_cases h0 : u = 0
   ·subst h0; rw [Lib.decDigits_one (by omega)]; decide
   ·obtain ⟨_, c', t', h6', h7⟩ := h4 (by omega)
    rw [h6'] at hl ⊢
    unfold badW
    simp only [List.length_cons] at hl ⊢
    have h8 : (c'.toNat == 48) = false := by simpa using h7
    rw [h8]
    simp; omega
  have ha : ((Lib.decDigits u).all fun c => digB c.toNat) = true := by rw [List.all_eq_true]; exact fun c hc => h1 c hc
  rw [hb, ha]
  simp only [Bool.false_eq_true, if_false, if_true, Int.toNat_natCast]
  have hs : sg false u = (u : Int) := rfl
  rw [hs, h, Go.Proofs.YtdchbenfccofpaaGreatDoor.wrapIn h]
theorem whl_not {c : UInt8} {t : List UInt8} (h1 : digB c.toNat = false) (h2 : ¬ c.toNat = 45 ∨ t = []) : whl (c :: t) = (0, false) := by
 by_cases h : c.toNat = 45
 ·obtain rfl : t = [] := by rcases h2 with h2 | h2; exact absurd h h2; exact h2
  unfold whl dgW negW
  simp [h, badW]
 ·unfold whl
  have hneg : negW (c :: t) = false := by unfold negW; simpa using h
  have hdg : dgW (c :: t) = c :: t := by unfold dgW; rw [hneg]; rfl
  rw [hneg, hdg]
  split
  ·rfl
  ·rw [if_neg]
   rw [List.all_cons, h1]
   simp
end Db
namespace Go.Proofs.YtdchbenfccofpaaGreatDoor
open Go.RowKit Db
theorem pow10_20 (k : Nat) (h : k ≤ 19) : pow10 k ≤ 10000000000000000000 := by
 have : pow10 19 = 10000000000000000000 := by decide
 have key : ∀ d j : Nat, j + d = 19 → pow10 j ≤ pow10 19 := by
  intro d
  induction d with
  | zero => intro j hj; rw [show j = 19 by omega]; exact Int.le_refl _
  | succ d ih => intro j hj; have := ih (j + 1) (by omega); rw [pow10_succ] at this; have := pow10_pos j; omega
 have := key (19 - k) k (by omega)
 omega
theorem pow10_19 (k : Nat) (h : k ≤ 18) : pow10 k ≤ 1000000000000000000 := by
 have h1 := pow10_20 (k + 1) (by omega)
 rw [pow10_succ] at h1
 omega
theorem notEmpty {s : ByteArray} (h : 0 < s.size) : s.toList.isEmpty = false := by
 rw [ByteArray.toList_eq]
 cases hl : s.data.toList with
 | nil =>
  have := L_length s
  unfold L at this
  rw [hl] at this
  simp at this
  omega
 | cons _ _ => rfl
theorem negW_at {t : ByteArray} (h : 0 < t.size) : negW (L t) = (t[0].toNat == 45) := by
 have := L_drop t 0 h
 rw [List.drop_zero] at this
 rw [this]; rfl
theorem badW_at {neg : Bool} {t : ByteArray} (h : 0 < t.size) : badW neg (L t) = (decide (19 < t.size) || (t[0].toNat == 48 && (neg || decide (1 < t.size)))) := by
 have h1 := L_drop t 0 h
 rw [List.drop_zero] at h1
 have h2 : ((L t).drop 1).isEmpty = !decide (1 < t.size) := by
  have hl : ((L t).drop 1).length = t.size - 1 := by rw [List.length_drop, L_length]
  cases hd : (L t).drop 1 with
  | nil =>
   rw [hd] at hl
   have : ¬ 1 < t.size := by simp at hl; omega
   simp [this]
  | cons a r =>
   rw [hd] at hl
   have : 1 < t.size := by simp at hl; omega
   simp [this]
 have h4 : badW neg (t[0] :: (L t).drop (0 + 1)) = (decide (19 < (t[0] :: (L t).drop (0 + 1)).length) || (t[0].toNat == 48 && (neg || !((L t).drop (0 + 1)).isEmpty))) := rfl
 rw [h1, h4, ← h1, L_length, Nat.zero_add, h2, Bool.not_not]
theorem whole_any (t : ByteArray) (w : World) (hs : t.size ≤ 10000) :
   Calls Tryz.prog 113 #[.string t] w fun e w' => e = .returned (.tuple #[.int .i64 (whl (L t)).1, .bool (whl (L t)).2]) ∧ w' = w := by
 by_cases h0 : t.size = 0
 · have he : t = ⟨#[]⟩ := L_inj (List.eq_nil_of_length_eq_zero (by rw [L_length]; exact h0))
   subst he
   have hr : whl (L ⟨#[]⟩) = (0, false) := rfl
   rw [hr]
   clear hr h0 hs
   go_enter Tryz.func113, Tryz.ntmps113
   go_wp2_with fail
   go_ret2
   exact ⟨rfl, rfl⟩
 have hz : 0 < t.size := by omega
 by_cases h45 : t[0].toNat = 45
 · have hneg : negW (L t) = true := by rw [negW_at hz]; simpa using h45
   have hdgw : dgW (L t) = L (t.extract 1 t.size) := by
     unfold dgW
     rw [hneg, if_pos rfl, L_extract]
     exact (List.take_of_length_le (by rw [List.length_drop, L_length]; omega)).symm
   have h45i : (t[0].toNat : Int) = 45 := by omega
   obtain ⟨s, hss⟩ : ∃ s, t.extract 1 t.size = s := ⟨_, rfl⟩
   rw [hss] at hdgw
   have hwh : whl (L t) = if badW true (L s) then (0, false) else if (L s).all (fun c => digB c.toNat) then (IntKind.i64.wrap (sg true (val (L s)).toNat), inR (sg true (val (L s)).toNat)) else (0, false) := by unfold whl; rw [hneg, hdgw]
   have hsz : s.size ≤ 10000 := by rw [← hss]; simp; omega
   obtain ⟨r, hr⟩ : ∃ r, whl (L t) = r := ⟨_, rfl⟩
   rw [hr] at hwh ⊢
   clear hr hneg hdgw h0
   by_cases hs0 : s.size = 0
   · have he : s = ⟨#[]⟩ := L_inj (List.eq_nil_of_length_eq_zero (by rw [L_length]; exact hs0))
     obtain rfl : r = (0, false) := by rw [hwh, he]; rfl
     subst he
     clear hwh hs0
     go_enter Tryz.func113, Tryz.ntmps113
     go_wp2_with fail
     go_ret2
     exact ⟨rfl, rfl⟩
   have hsp : 0 < s.size := by omega
   have hne := notEmpty hsp
   rw [badW_at hsp] at hwh
   by_cases h19 : 19 < s.size
   · obtain rfl : r = (0, false) := by rw [hwh]; simp [h19]
     clear hwh
     go_enter Tryz.func113, Tryz.ntmps113
     go_wp2_with fail
     go_ret2
     exact ⟨rfl, rfl⟩
   by_cases h48 : s[0].toNat = 48
   · obtain rfl : r = (0, false) := by rw [hwh]; simp [h48]
     have h48i : (s[0].toNat : Int) = 48 := by omega
     clear hwh
     go_enter Tryz.func113, Tryz.ntmps113
     go_wp2_with fail
     go_ret2
     exact ⟨rfl, rfl⟩
   · have h48i : ¬ (s[0].toNat : Int) = 48 := by omega
     have Hfin : Hid (∀ b : Bool, ((L s).all fun c => digB c.toNat) = b → r = if b then (IntKind.i64.wrap (sg true (val (L s)).toNat), inR (sg true (val (L s)).toNat)) else (0, false)) := by
       intro b hb
       rw [hwh, hb]
       have e48 : (s[0].toNat == 48) = false := by simpa using h48
       simp [h19, e48]
     clear hwh
     go_enter Tryz.func113, Tryz.ntmps113
     go_wp2_with fail
     go_loopg [6, 7] s.size (fun m tv i wr => ∃ k : Nat, ∃ x : Nat, k ≤ s.size ∧ m = s.size - k ∧ i = .int .i64 k ∧ tv = .int .u64 (x : Int) ∧ (x : Int) < pow10 k ∧ Hid (val (L s) = valGo (x : Int) ((L s).drop k)) ∧ Hid ((((L s).drop k).all fun c => digB c.toNat) = ((L s).all fun c => digB c.toNat)) ∧ wr = w)
     case atStart => exact ⟨0, 0, by omega, rfl, rfl, rfl, by decide, rfl, rfl, rfl⟩
     case round =>
       obtain ⟨k, x, hk, rfl, rfl, rfl, hx, Hv, Ha, rfl⟩ := hrel
       by_cases hlk : k < s.size
       · have hp := pow10_19 k (by omega)
         have hp2 := pow10_succ k
         have hdr := L_drop s k hlk
         obtain ⟨c, hc⟩ : ∃ c, s[k] = c := ⟨_, rfl⟩
         rw [hc] at hdr
         obtain ⟨dg, hdg⟩ : ∃ dg, digB (c.toNat : Int) = dg := ⟨_, rfl⟩
         have Hst : Hid ((((L s).drop k).all fun c => digB c.toNat) = (dg && (((L s).drop (k + 1)).all fun c => digB c.toNat))) := by
           show _ = _
           rw [hdr, List.all_cons, hdg]
         have Hvs : Hid (val (L s) = valGo (10 * (x : Int) + ((c.toNat : Int) - 48)) ((L s).drop (k + 1))) := by
           show _ = _
           rw [Hv.u, hdr]; rfl
         have Hdc := hI (fun wx : World => dgt (c.toNat : Int) wx)
         rw [hdg] at Hdc
         have hcn : s[k].toNat = c.toNat := by rw [hc]
         clear hdr
         cases dg with
         | false =>
           have hval : ((L s).all fun c => digB c.toNat) = false := by rw [← Ha.u, Hst.u]; rfl
           have Hr := hI (Hfin.u false hval)
           clear hval hc hdg
           go_wp2_with fail
           refine (Hdc.u _).mono ?_
           rintro e w1 ⟨rfl, rfl⟩
           go_wp2_with fail
           go_ret2
           rw [Hr.u]
           exact ⟨rfl, rfl⟩
         | true =>
           have h48 : 48 ≤ c.toNat ∧ c.toNat ≤ 57 := by unfold digB at hdg; simp at hdg; omega
           have hx18 : (x : Int) ≤ 999999999999999999 := by omega
           have hw1 : IntKind.u64.wrap (10 * (x : Int)) = 10 * (x : Int) := wrapU (by omega) (by omega)
           have hw2 : IntKind.u64.wrap ((c.toNat : Int) - 48) = (c.toNat : Int) - 48 := wrapU (by omega) (by omega)
           have hw3 : IntKind.u64.wrap (10 * (x : Int) + ((c.toNat : Int) - 48)) = 10 * (x : Int) + ((c.toNat : Int) - 48) := wrapU (by omega) (by omega)
           have hw4 : IntKind.u8.wrap ((c.toNat : Int) - 48) = (c.toNat : Int) - 48 := by unfold IntKind.wrap; simp [IntKind.bits, IntKind.signed]; omega
           have Ha2 : Hid ((((L s).drop (k + 1)).all fun c => digB c.toNat) = ((L s).all fun c => digB c.toNat)) := by show _ = _; rw [← Ha.u, Hst.u]; rfl
           obtain ⟨y, hy⟩ : ∃ y : Nat, 10 * (x : Int) + ((c.toNat : Int) - 48) = y := ⟨(10 * (x : Int) + ((c.toNat : Int) - 48)).toNat, by omega⟩
           have Hv2 : Hid (val (L s) = valGo (y : Int) ((L s).drop (k + 1))) := by show _ = _; rw [← hy]; exact Hvs.u
           have hyb : (y : Int) < pow10 (k + 1) := by omega
           clear hc hdg hp hp2 Hvs
           go_wp2_with fail
           refine (Hdc.u _).mono ?_
           rintro e w1 ⟨rfl, rfl⟩
           go_wp2_with fail
           go_roundg (s.size - (k + 1))
           case measure => omega
           case rel => exact ⟨k + 1, y, by omega, rfl, by go_num, by first | rfl | rw [hy] | simp [hy], hyb, Hv2.u, Ha2.u, rfl⟩
       · obtain rfl : k = s.size := by omega
         have hxv : val (L s) = (x : Int) := by rw [Hv.u, L_drop_end s _ (Nat.le_refl _)]; rfl
         have hall : ((L s).all fun c => digB c.toNat) = true := by rw [← Ha.u, L_drop_end s _ (Nat.le_refl _)]; rfl
         have Hr := hI (Hfin.u true hall)
         have hxm : x < 18446744073709551616 := by have := pow10_20 s.size (by omega); omega
         obtain ⟨z, hz⟩ : ∃ z, IntKind.i64.wrap (sg true x) = z := ⟨_, rfl⟩
         have Hsd := hI (fun wx : World => signed_det x true wx hxm z _ hz rfl)
         rw [hxv, Int.toNat_natCast] at Hr
         simp only [if_true] at Hr
         rw [hz] at Hr
         clear hxv hall hx hz
         go_wp2_with fail
         refine (Hsd.u _).mono ?_
         rintro e w1 ⟨rfl, rfl⟩
         go_wp2_with fail
         go_ret2
         rw [Hr.u]
         exact ⟨rfl, rfl⟩
 · have hneg : negW (L t) = false := by rw [negW_at hz]; simpa using h45
   have hdgw : dgW (L t) = L t := by unfold dgW; rw [hneg]; rfl
   have h45i : ¬ (t[0].toNat : Int) = 45 := by omega
   have hwh : whl (L t) = if badW false (L t) then (0, false) else if (L t).all (fun c => digB c.toNat) then (IntKind.i64.wrap (sg false (val (L t)).toNat), inR (sg false (val (L t)).toNat)) else (0, false) := by unfold whl; rw [hneg, hdgw]
   obtain ⟨r, hr⟩ : ∃ r, whl (L t) = r := ⟨_, rfl⟩
   rw [hr] at hwh ⊢
   have hne := notEmpty hz
   rw [badW_at hz] at hwh
   clear hr hneg hdgw h0
   by_cases h19 : 19 < t.size
   · obtain rfl : r = (0, false) := by rw [hwh]; simp [h19]
     clear hwh
     go_enter Tryz.func113, Tryz.ntmps113
     go_wp2_with fail
     go_ret2
     exact ⟨rfl, rfl⟩
   by_cases h48 : t[0].toNat = 48 ∧ 1 < t.size
   · obtain rfl : r = (0, false) := by rw [hwh]; simp [h48.1, h48.2]
     have h48i : (t[0].toNat : Int) = 48 := by omega
     have h481 := h48.2
     clear hwh
     go_enter Tryz.func113, Tryz.ntmps113
     go_wp2_with fail
     go_ret2
     exact ⟨rfl, rfl⟩
   · have Hfin : Hid (∀ b : Bool, ((L t).all fun c => digB c.toNat) = b → r = if b then (IntKind.i64.wrap (sg false (val (L t)).toNat), inR (sg false (val (L t)).toNat)) else (0, false)) := by
       intro b hb
       rw [hwh, hb]
       have e48 : (t[0].toNat == 48 && decide (1 < t.size)) = false := by
         by_cases h1 : t[0].toNat = 48
         · have : ¬ 1 < t.size := fun h2 => h48 ⟨h1, h2⟩
           simp [this]
         · have : (t[0].toNat == 48) = false := by simpa using h1
           rw [this]; rfl
       rw [Bool.false_or, e48]
       simp [h19]
     clear hwh
     by_cases h1 : t[0].toNat = 48
     · have h2 : ¬ 1 < t.size := fun h2 => h48 ⟨h1, h2⟩
       have h48i : (t[0].toNat : Int) = 48 := by omega
       clear h48
       go_enter Tryz.func113, Tryz.ntmps113
       go_wp2_with fail
       go_loopg [6, 7] t.size (fun m tv i wr => ∃ k : Nat, ∃ x : Nat, k ≤ t.size ∧ m = t.size - k ∧ i = .int .i64 k ∧ tv = .int .u64 (x : Int) ∧ (x : Int) < pow10 k ∧ Hid (val (L t) = valGo (x : Int) ((L t).drop k)) ∧ Hid ((((L t).drop k).all fun c => digB c.toNat) = ((L t).all fun c => digB c.toNat)) ∧ wr = w)
       case atStart => exact ⟨0, 0, by omega, rfl, rfl, rfl, by decide, rfl, rfl, rfl⟩
       case round =>
         obtain ⟨k, x, hk, rfl, rfl, rfl, hx, Hv, Ha, rfl⟩ := hrel
         by_cases hlk : k < t.size
         · have hp := pow10_19 k (by omega)
           have hp2 := pow10_succ k
           have hdr := L_drop t k hlk
           obtain ⟨c, hc⟩ : ∃ c, t[k] = c := ⟨_, rfl⟩
           rw [hc] at hdr
           obtain ⟨dg, hdg⟩ : ∃ dg, digB (c.toNat : Int) = dg := ⟨_, rfl⟩
           have Hst : Hid ((((L t).drop k).all fun c => digB c.toNat) = (dg && (((L t).drop (k + 1)).all fun c => digB c.toNat))) := by
             show _ = _
             rw [hdr, List.all_cons, hdg]
           have Hvs : Hid (val (L t) = valGo (10 * (x : Int) + ((c.toNat : Int) - 48)) ((L t).drop (k + 1))) := by
             show _ = _
             rw [Hv.u, hdr]; rfl
           have Hdc := hI (fun wx : World => dgt (c.toNat : Int) wx)
           rw [hdg] at Hdc
           have hcn : t[k].toNat = c.toNat := by rw [hc]
           clear hdr
           cases dg with
           | false =>
             have hval : ((L t).all fun c => digB c.toNat) = false := by rw [← Ha.u, Hst.u]; rfl
             have Hr := hI (Hfin.u false hval)
             clear hval hc hdg
             go_wp2_with fail
             refine (Hdc.u _).mono ?_
             rintro e w1 ⟨rfl, rfl⟩
             go_wp2_with fail
             go_ret2
             rw [Hr.u]
             exact ⟨rfl, rfl⟩
           | true =>
             have h48 : 48 ≤ c.toNat ∧ c.toNat ≤ 57 := by unfold digB at hdg; simp at hdg; omega
             have hx18 : (x : Int) ≤ 999999999999999999 := by omega
             have hw1 : IntKind.u64.wrap (10 * (x : Int)) = 10 * (x : Int) := wrapU (by omega) (by omega)
             have hw2 : IntKind.u64.wrap ((c.toNat : Int) - 48) = (c.toNat : Int) - 48 := wrapU (by omega) (by omega)
             have hw3 : IntKind.u64.wrap (10 * (x : Int) + ((c.toNat : Int) - 48)) = 10 * (x : Int) + ((c.toNat : Int) - 48) := wrapU (by omega) (by omega)
             have hw4 : IntKind.u8.wrap ((c.toNat : Int) - 48) = (c.toNat : Int) - 48 := by unfold IntKind.wrap; simp [IntKind.bits, IntKind.signed]; omega
             have Ha2 : Hid ((((L t).drop (k + 1)).all fun c => digB c.toNat) = ((L t).all fun c => digB c.toNat)) := by show _ = _; rw [← Ha.u, Hst.u]; rfl
             obtain ⟨y, hy⟩ : ∃ y : Nat, 10 * (x : Int) + ((c.toNat : Int) - 48) = y := ⟨(10 * (x : Int) + ((c.toNat : Int) - 48)).toNat, by omega⟩
             have Hv2 : Hid (val (L t) = valGo (y : Int) ((L t).drop (k + 1))) := by show _ = _; rw [← hy]; exact Hvs.u
             have hyb : (y : Int) < pow10 (k + 1) := by omega
             clear hc hdg hp hp2 Hvs
             go_wp2_with fail
             refine (Hdc.u _).mono ?_
             rintro e w1 ⟨rfl, rfl⟩
             go_wp2_with fail
             go_roundg (t.size - (k + 1))
             case measure => omega
             case rel => exact ⟨k + 1, y, by omega, rfl, by go_num, by first | rfl | rw [hy] | simp [hy], hyb, Hv2.u, Ha2.u, rfl⟩
         · obtain rfl : k = t.size := by omega
           have hxv : val (L t) = (x : Int) := by rw [Hv.u, L_drop_end t _ (Nat.le_refl _)]; rfl
           have hall : ((L t).all fun c => digB c.toNat) = true := by rw [← Ha.u, L_drop_end t _ (Nat.le_refl _)]; rfl
           have Hr := hI (Hfin.u true hall)
           have hxm : x < 18446744073709551616 := by have := pow10_20 t.size (by omega); omega
           obtain ⟨z, hz⟩ : ∃ z, IntKind.i64.wrap (sg false x) = z := ⟨_, rfl⟩
           have Hsd := hI (fun wx : World => signed_det x false wx hxm z _ hz rfl)
           rw [hxv, Int.toNat_natCast] at Hr
           simp only [if_true] at Hr
           rw [hz] at Hr
           clear hxv hall hx hz
           go_wp2_with fail
           refine (Hsd.u _).mono ?_
           rintro e w1 ⟨rfl, rfl⟩
           go_wp2_with fail
           go_ret2
           rw [Hr.u]
           exact ⟨rfl, rfl⟩
     · have h48i : ¬ (t[0].toNat : Int) = 48 := by omega
       clear h48
       go_enter Tryz.func113, Tryz.ntmps113
       go_wp2_with fail
       go_loopg [6, 7] t.size (fun m tv i wr => ∃ k : Nat, ∃ x : Nat, k ≤ t.size ∧ m = t.size - k ∧ i = .int .i64 k ∧ tv = .int .u64 (x : Int) ∧ (x : Int) < pow10 k ∧ Hid (val (L t) = valGo (x : Int) ((L t).drop k)) ∧ Hid ((((L t).drop k).all fun c => digB c.toNat) = ((L t).all fun c => digB c.toNat)) ∧ wr = w)
       case atStart => exact ⟨0, 0, by omega, rfl, rfl, rfl, by decide, rfl, rfl, rfl⟩
       case round =>
         obtain ⟨k, x, hk, rfl, rfl, rfl, hx, Hv, Ha, rfl⟩ := hrel
         by_cases hlk : k < t.size
         · have hp := pow10_19 k (by omega)
           have hp2 := pow10_succ k
           have hdr := L_drop t k hlk
           obtain ⟨c, hc⟩ : ∃ c, t[k] = c := ⟨_, rfl⟩
           rw [hc] at hdr
           obtain ⟨dg, hdg⟩ : ∃ dg, digB (c.toNat : Int) = dg := ⟨_, rfl⟩
           have Hst : Hid ((((L t).drop k).all fun c => digB c.toNat) = (dg && (((L t).drop (k + 1)).all fun c => digB c.toNat))) := by
             show _ = _
             rw [hdr, List.all_cons, hdg]
           have Hvs : Hid (val (L t) = valGo (10 * (x : Int) + ((c.toNat : Int) - 48)) ((L t).drop (k + 1))) := by
             show _ = _
             rw [Hv.u, hdr]; rfl
           have Hdc := hI (fun wx : World => dgt (c.toNat : Int) wx)
           rw [hdg] at Hdc
           have hcn : t[k].toNat = c.toNat := by rw [hc]
           clear hdr
           cases dg with
           | false =>
             have hval : ((L t).all fun c => digB c.toNat) = false := by rw [← Ha.u, Hst.u]; rfl
             have Hr := hI (Hfin.u false hval)
             clear hval hc hdg
             go_wp2_with fail
             refine (Hdc.u _).mono ?_
             rintro e w1 ⟨rfl, rfl⟩
             go_wp2_with fail
             go_ret2
             rw [Hr.u]
             exact ⟨rfl, rfl⟩
           | true =>
             have h48 : 48 ≤ c.toNat ∧ c.toNat ≤ 57 := by unfold digB at hdg; simp at hdg; omega
             have hx18 : (x : Int) ≤ 999999999999999999 := by omega
             have hw1 : IntKind.u64.wrap (10 * (x : Int)) = 10 * (x : Int) := wrapU (by omega) (by omega)
             have hw2 : IntKind.u64.wrap ((c.toNat : Int) - 48) = (c.toNat : Int) - 48 := wrapU (by omega) (by omega)
             have hw3 : IntKind.u64.wrap (10 * (x : Int) + ((c.toNat : Int) - 48)) = 10 * (x : Int) + ((c.toNat : Int) - 48) := wrapU (by omega) (by omega)
             have hw4 : IntKind.u8.wrap ((c.toNat : Int) - 48) = (c.toNat : Int) - 48 := by unfold IntKind.wrap; simp [IntKind.bits, IntKind.signed]; omega
             have Ha2 : Hid ((((L t).drop (k + 1)).all fun c => digB c.toNat) = ((L t).all fun c => digB c.toNat)) := by show _ = _; rw [← Ha.u, Hst.u]; rfl
             obtain ⟨y, hy⟩ : ∃ y : Nat, 10 * (x : Int) + ((c.toNat : Int) - 48) = y := ⟨(10 * (x : Int) + ((c.toNat : Int) - 48)).toNat, by omega⟩
             have Hv2 : Hid (val (L t) = valGo (y : Int) ((L t).drop (k + 1))) := by show _ = _; rw [← hy]; exact Hvs.u
             have hyb : (y : Int) < pow10 (k + 1) := by omega
             clear hc hdg hp hp2 Hvs
             go_wp2_with fail
             refine (Hdc.u _).mono ?_
             rintro e w1 ⟨rfl, rfl⟩
             go_wp2_with fail
             go_roundg (t.size - (k + 1))
             case measure => omega
             case rel => exact ⟨k + 1, y, by omega, rfl, by go_num, by first | rfl | rw [hy] | simp [hy], hyb, Hv2.u, Ha2.u, rfl⟩
         · obtain rfl : k = t.size := by omega
           have hxv : val (L t) = (x : Int) := by rw [Hv.u, L_drop_end t _ (Nat.le_refl _)]; rfl
           have hall : ((L t).all fun c => digB c.toNat) = true := by rw [← Ha.u, L_drop_end t _ (Nat.le_refl _)]; rfl
           have Hr := hI (Hfin.u true hall)
           have hxm : x < 18446744073709551616 := by have := pow10_20 t.size (by omega); omega
           obtain ⟨z, hz⟩ : ∃ z, IntKind.i64.wrap (sg false x) = z := ⟨_, rfl⟩
           have Hsd := hI (fun wx : World => signed_det x false wx hxm z _ hz rfl)
           rw [hxv, Int.toNat_natCast] at Hr
           simp only [if_true] at Hr
           rw [hz] at Hr
           clear hxv hall hx hz
           go_wp2_with fail
           refine (Hsd.u _).mono ?_
           rintro e w1 ⟨rfl, rfl⟩
           go_wp2_with fail
           go_ret2
           rw [Hr.u]
           exact ⟨rfl, rfl⟩
end Go.Proofs.YtdchbenfccofpaaGreatDoor
namespace Db
open Go Go.Proofs.YtdchbenfccofpaaGreatDoor
def actB (l : List UInt8) : Bool := match l with | [c] => opB c.toNat || c.toNat == 126 | _ => false
def choB (l : List UInt8) (row : Int) : Bool :=
 match l with
 | c :: t => if decide (1 ≤ t.length) && decide (t.length ≤ 2) then (if !(whl t).2 || decide ((whl t).1 < 0) then false else selB c.toNat || (oldB c.toNat && decide ((whl t).1 < row))) else false
 | [] => false
def WOk (row : Int) (p : Pt) : Prop := PtS p ∧ (selB p.1 = true → 0 ≤ p.2 ∧ p.2 < 100) ∧ (oldB p.1 = true → 0 ≤ p.2 ∧ p.2 < 10 ∧ p.2 < row)
theorem u8_op {s : Int} (h : opB s = true ∨ s = 126) : ((u8 s).toNat : Int) = s ∧ digB (u8 s).toNat = false := by
 rcases h with h | rfl
 ·simp [opB] at h
  rcases h with ((rfl | rfl) | rfl) | rfl <;> exact ⟨rfl, rfl⟩
 ·exact ⟨rfl, rfl⟩
theorem u8_sel {s : Int} (h : selB s = true ∨ oldB s = true) : ((u8 s).toNat : Int) = s ∧ digB (u8 s).toNat = false ∧ ¬ (u8 s).toNat = 45 ∧ (s == 48) = false ∧ opdB s = true := by
 rcases h with h | h
 ·simp [selB] at h
  rcases h with (rfl | rfl) | rfl <;> exact ⟨rfl, rfl, by decide, rfl, rfl⟩
 ·simp [oldB] at h
  rcases h with rfl | rfl <;> exact ⟨rfl, rfl, by decide, rfl, rfl⟩
theorem sg_cases {s : Int} (h : sgB s = true) : s = 48 ∨ (selB s = true ∨ oldB s = true) ∨ (opdB s = false ∧ (opB s = true ∨ s = 126)) := by
 simp [sgB, opdB, opB, selB, oldB] at h
 rcases h with (((rfl | (rfl | rfl) | rfl) | rfl | rfl) | ((rfl | rfl) | rfl) | rfl) | rfl <;> simp [opdB, opB, selB, oldB]
theorem wordC_num (n : Int) : wordC (48, n) = Lib.itoa n := rfl
theorem wordC_opd {p : Pt} (h : selB p.1 = true ∨ oldB p.1 = true) : wordC p = u8 p.1 :: Lib.itoa p.2 := by
 have := u8_sel h
 unfold wordC
 rw [this.2.2.2.1, this.2.2.2.2]; rfl
theorem wordC_op {p : Pt} (h : opdB p.1 = false) : wordC p = [u8 p.1] := by
 unfold wordC
 have : (p.1 == 48) = false := by
  cases h8 : (p.1 == 48) with
  | false => rfl
  | true => rw [beq_iff_eq.1 h8] at h; cases h
 rw [this, h]; rfl
theorem whl_word {p : Pt} (h : PtS p) : whl (wordC p) = if p.1 == 48 then (p.2, true) else (0, false) := by
 obtain ⟨s, n⟩ := p
 rcases sg_cases h.1 with hs | hs | ⟨h1, h2⟩
 ·simp only at hs
  subst hs
  rw [wordC_num, whl_itoa h.2]; rfl
 ·have := u8_sel hs
  rw [wordC_opd hs, whl_not this.2.1 (.inl this.2.2.1), this.2.2.2.1]; rfl
 ·have h3 := u8_op h2
  have h48 : (s == 48) = false := by
   cases h8 : (s == 48) with
   | false => rfl
   | true => rw [beq_iff_eq.1 h8] at h1; cases h1
  rw [wordC_op h1, whl_not h3.2 (.inr rfl), h48]; rfl
theorem itoa_head (n : Int) : ∃ c t, Lib.itoa n = c :: t ∧ ((digB c.toNat = true) ∨ (c.toNat = 45 ∧ t ≠ [])) := by
 by_cases hn : n < 0
 ·obtain ⟨u, rfl⟩ : ∃ u : Nat, n = -(u : Int) := ⟨n.natAbs, by omega⟩
  rw [Lib.itoa_neg u (by omega)]
  exact ⟨45, _, rfl, .inr ⟨rfl, (dec_facts u).2.2.1⟩⟩
 ·obtain ⟨u, rfl⟩ : ∃ u : Nat, n = (u : Int) := ⟨n.toNat, by omega⟩
  rw [Lib.itoa_nonneg]
  obtain ⟨h1, _, h3, _⟩ := dec_facts u
  cases hd : Lib.decDigits u with
  | nil => exact absurd hd h3
  | cons c t => exact ⟨c, t, rfl, .inl (h1 c (by rw [hd]; simp))⟩
theorem act_word {p : Pt} (h : PtS p) : actB (wordC p) = !opdB p.1 := by
 obtain ⟨s, n⟩ := p
 rcases sg_cases h.1 with hs | hs | ⟨h1, h2⟩
 ·simp only at hs
  subst hs
  rw [wordC_num]
  obtain ⟨c, t, he, hc⟩ := itoa_head n
  rw [he]
  cases t with
  | cons d r => rfl
  | nil =>
   rcases hc with hc | hc
   ·unfold digB at hc
    simp at hc
    unfold actB opB
    simp
    have e : opdB 48 = true := rfl
    rw [e]
    simp
    omega
   ·exact absurd rfl hc.2
 ·have h5 := u8_sel hs
  rw [wordC_opd hs]
  obtain ⟨c, t, he, _⟩ := itoa_head n
  simp only at h5 ⊢
  rw [he, h5.2.2.2.2]; rfl
 ·have h3 := u8_op h2
  rw [wordC_op h1]
  simp only at h1 h3 ⊢
  unfold actB
  simp only
  rw [h1, h3.1]
  rcases h2 with h2 | h2
  ·simp only at h2; rw [h2]; rfl
  ·simp only at h2; subst h2
   simp
   decide
theorem itoa_two {n : Int} (h0 : 0 ≤ n) (h1 : n < 100) : 1 ≤ (Lib.itoa n).length ∧ (Lib.itoa n).length ≤ 2 ∧ (n < 10 → (Lib.itoa n).length = 1) ∧ (∀ c ∈ Lib.itoa n, digB c.toNat = true) ∧ val (Lib.itoa n) = n := by
 obtain ⟨u, rfl⟩ : ∃ u : Nat, n = (u : Int) := ⟨n.toNat, by omega⟩
 rw [Lib.itoa_nonneg]
 obtain ⟨f1, f2, f3, f4⟩ := dec_facts u
 by_cases h : u < 10
 ·refine ⟨?_, ?_, fun _ => ?_, f1, f2⟩ <;> rw [Lib.decDigits_one h] <;> simp
 ·refine ⟨?_, ?_, fun h => absurd h (by omega), f1, f2⟩ <;> rw [Lib.decDigits_two h (by omega)] <;> simp
theorem cho_word {row : Int} {p : Pt} (h : WOk row p) (ho : selB p.1 = true ∨ oldB p.1 = true) : choB (wordC p) row = true := by
 obtain ⟨s, n⟩ := p
 obtain ⟨⟨_, hin⟩, hs, hl⟩ := h
 have h5 := u8_sel ho
 rw [wordC_opd ho]
 simp only at hin hs hl h5 ho ⊢
 have hn : 0 ≤ n ∧ n < 100 := by
  rcases ho with ho | ho
  ·exact hs ho
  ·have := hl ho; omega
 have hi := itoa_two hn.1 hn.2
 unfold choB
 simp only
 rw [whl_itoa hin, h5.1]
 have h0 : ¬ n < 0 := by omega
 simp only [hi.1, hi.2.1, h0]
 rcases ho with ho | ho
 ·simp [ho]
 ·have := (hl ho).2.2
  simp [ho, this]
theorem opnd_wordC {row : Int} {p : Pt} (h : WOk row p) (ho : selB p.1 = true ∨ oldB p.1 = true) : Opnd (wordC p) [p] := by
 obtain ⟨s, n⟩ := p
 obtain ⟨⟨_, hin⟩, hs, hl⟩ := h
 have h5 := u8_sel ho
 rw [wordC_opd ho]
 simp only at hin hs hl h5 ho ⊢
 have hn : 0 ≤ n ∧ n < 100 := by
  rcases ho with ho | ho
  ·exact hs ho
  ·have := hl ho; omega
 obtain ⟨i1, i2, i3, i4, i5⟩ := itoa_two hn.1 hn.2
 refine .inr ⟨u8 s, Lib.itoa n, rfl, i1, i4, ?_, by rw [i5, h5.1]⟩
 rcases ho with ho | ho
 ·exact .inl ⟨by rw [h5.1]; exact ho, i2⟩
 ·exact .inr ⟨by rw [h5.1]; exact ho, i3 (hl ho).2.1⟩
end Db
namespace Go.Proofs.YtdchbenfccofpaaGreatDoor
open Go.RowKit Db
theorem acts_any (t : ByteArray) (w : World) :
   Calls Tryz.prog 115 #[.string t] w fun e w' => e = .returned (.bool (actB (L t))) ∧ w' = w := by
 by_cases h1 : t.size = 1
 · have hz : 0 < t.size := by omega
   have hL : L t = [t[0]] := by
     have := L_drop t 0 hz
     rw [List.drop_zero] at this
     rw [this, L_drop_end t _ (by omega)]
   have hr : actB (L t) = (opB (t[0].toNat : Int) || t[0].toNat == 126) := by rw [hL]; rfl
   rw [hr]
   obtain ⟨o, ho⟩ : ∃ o, opB (t[0].toNat : Int) = o := ⟨_, rfl⟩
   have Hop := hI (fun wx : World => opr (t[0].toNat : Int) wx)
   rw [ho] at Hop ⊢
   obtain ⟨q, hq⟩ : ∃ q, (t[0].toNat == 126) = q := ⟨_, rfl⟩
   rw [hq]
   have Hq := hI hq
   clear hL hr ho hq
   go_enter Tryz.func115, Tryz.ntmps115
   go_wp2_with fail
   refine (Hop.u _).mono ?_
   rintro e w1 ⟨rfl, rfl⟩
   cases o with
   | true =>
     go_wp2_with fail
     go_ret
     exact ⟨rfl, rfl⟩
   | false =>
     cases q with
     | true =>
       have h126i : (t[0].toNat : Int) = 126 := by have : t[0].toNat = 126 := by simpa using Hq.u
                                                   omega
       go_wp2_with fail
       go_ret
       exact ⟨rfl, rfl⟩
     | false =>
       have h126 : ¬ t[0].toNat = 126 := by simpa using Hq.u
       have h126b : ((t[0].toNat : Int) == 126) = false := by simp; omega
       go_wp2_with fail
       go_ret
       exact ⟨rfl, rfl⟩
 · have hr : actB (L t) = false := by
     have hl := L_length t
     match hL : L t with
     | [] => rfl
     | [c] => rw [hL] at hl; simp at hl; omega
     | c :: d :: r => rfl
   rw [hr]
   have h1i : ¬ (t.size : Int) = 1 := by omega
   have h1b : ((t.size : Int) == 1) = false := by simpa using h1i
   clear hr
   go_enter Tryz.func115, Tryz.ntmps115
   go_wp2_with fail
   go_ret
   exact ⟨rfl, rfl⟩
theorem chooses_any (t : ByteArray) (row : Int) (w : World) (hs : t.size ≤ 10000) :
   Calls Tryz.prog 114 #[.string t, .int .i64 row] w fun e w' => e = .returned (.bool (choB (L t) row)) ∧ w' = w := by
 by_cases h2 : t.size < 2
 · have hr : choB (L t) row = false := by
     have hl := L_length t
     match hL : L t with
     | [] => rfl
     | [c] => rfl
     | c :: d :: r => rw [hL] at hl; simp at hl; omega
   rw [hr]
   clear hr
   go_enter Tryz.func114, Tryz.ntmps114
   go_wp2_with fail
   go_ret
   exact ⟨rfl, rfl⟩
 by_cases h3 : 3 < t.size
 · have hr : choB (L t) row = false := by
     have hl := L_length t
     match hL : L t with
     | [] => rfl
     | c :: r =>
       rw [hL] at hl
       simp at hl
       unfold choB
       have : ¬ r.length ≤ 2 := by omega
       simp [this]
   rw [hr]
   clear hr
   go_enter Tryz.func114, Tryz.ntmps114
   go_wp2_with fail
   go_ret
   exact ⟨rfl, rfl⟩
 · have hz : 0 < t.size := by omega
   have hL : L t = t[0] :: (L t).drop 1 := by
     have := L_drop t 0 hz
     rwa [List.drop_zero] at this
   have hex : L (t.extract 1 t.size) = (L t).drop 1 := by
     rw [L_extract]
     exact List.take_of_length_le (by rw [List.length_drop, L_length]; omega)
   have hdl : ((L t).drop 1).length = t.size - 1 := by rw [List.length_drop, L_length]
   obtain ⟨x, hx⟩ : ∃ x, whl ((L t).drop 1) = x := ⟨_, rfl⟩
   have hr : choB (L t) row = if !x.2 || decide (x.1 < 0) then false else selB (t[0].toNat : Int) || (oldB (t[0].toNat : Int) && decide (x.1 < row)) := by
     rw [hL]
     unfold choB
     simp only
     rw [hx, if_pos]
     rw [hdl]
     simp; omega
   rw [hr]
   have Hwh := hI (fun wx : World => whole_any (t.extract 1 t.size) wx (by simp; omega))
   rw [hex, hx] at Hwh
   obtain ⟨x1, x2⟩ := x
   have Hse := hI (fun wx : World => slr (t[0].toNat : Int) wx)
   have Hol := hI (fun wx : World => older_any (t[0].toNat : Int) wx)
   obtain ⟨se, hse⟩ : ∃ se, selB (t[0].toNat : Int) = se := ⟨_, rfl⟩
   obtain ⟨ol, hol⟩ : ∃ ol, oldB (t[0].toNat : Int) = ol := ⟨_, rfl⟩
   rw [hse] at Hse ⊢
   rw [hol] at Hol ⊢
   simp only at Hwh ⊢
   clear hL hex hdl hx hr hse hol
   cases x2 with
   | false =>
     simp only [Bool.not_false, Bool.true_or, if_true]
     go_enter Tryz.func114, Tryz.ntmps114
     go_wp2_with fail
     refine (Hwh.u _).mono ?_
     rintro e w1 ⟨rfl, rfl⟩
     go_wp2_with fail
     go_ret
     exact ⟨rfl, rfl⟩
   | true =>
     by_cases h0 : x1 < 0
     · rw [if_pos (by simp [h0])]
       go_enter Tryz.func114, Tryz.ntmps114
       go_wp2_with fail
       refine (Hwh.u _).mono ?_
       rintro e w1 ⟨rfl, rfl⟩
       go_wp2_with fail
       go_ret
       exact ⟨rfl, rfl⟩
     · rw [if_neg (by simp; omega)]
       have hn0 : 0 ≤ x1 := by omega
       cases se <;> cases ol <;> by_cases hrow : x1 < row
       all_goals
         go_enter Tryz.func114, Tryz.ntmps114
         go_wp2_with fail
         refine (Hwh.u _).mono ?_
         rintro e w1 ⟨rfl, rfl⟩
         go_wp2_with fail
         refine (Hse.u _).mono ?_
         rintro e w1 ⟨rfl, rfl⟩
         go_wp2_with fail
         refine (Hol.u _).mono ?_
         rintro e w1 ⟨rfl, rfl⟩
         go_wp2_with fail
         go_ret
         exact ⟨by simp [hrow], rfl⟩
def PartsC (n : Nat) : Prop := ∀ (t : ByteArray) (ps : List Pt) (w : World), t.size ≤ 200 → Wf n (L t) ps → ps.length ≤ 200 →
  Calls Tryz.prog 116 #[.string t] w fun e w' => e = .returned (.int .i64 (ps.length : Int)) ∧ ∃ m, w' = w.drewN m
theorem parts_any (n : Nat) : PartsC n := by
 induction n with
 | zero => intro t ps w hs hw; exact absurd hw (by simp [Wf])
 | succ n ih =>
  intro t ps w hs hw hl
  have Hih := hI ih
  clear ih
  rcases hw with ⟨hc, hop⟩ | ⟨hc, hw⟩ | ⟨hc, p, hw, rfl⟩ | ⟨hc, p, q, hp, hq, rfl⟩
  ·obtain ⟨p, rfl, _⟩ := opnd_opd hop
   have Hcut := hI hc
   clear hc hop
   go_enter Tryz.func116, Tryz.ntmps116
   go_wp2_with fail
   refine (cut_any t _ hs).mono ?_
   rintro e w1 ⟨o, l, r, rfl, ⟨hco, hcl, hcr⟩, m, rfl⟩
   rw [Hcut.u] at hco
   subst hco
   clear hcl hcr
   go_wp2_with fail
   go_ret
   exact ⟨rfl, _, rfl⟩
  ·have Hw := hI hw
   have Ho := hI hc
   clear hw hc
   go_enter Tryz.func116, Tryz.ntmps116
   go_wp2_with fail
   refine (cut_any t _ hs).mono ?_
   rintro e w1 ⟨o, l, r, rfl, ⟨hco, hcl, hcr⟩, m, rfl⟩
   obtain rfl : (40 : Int) = o := Ho.u.symm.trans hco
   have Hr : Hid (Wf n (L r) ps) := by show Wf _ _ _; rw [hcr]; exact Hw.u
   have hrs : r.size ≤ 200 := Nat.le_trans (size_of_L hcr (cut_le (L t)).2) hs
   clear hco hcl hcr Hw Ho
   go_wp2_with fail
   refine (Hih.u r ps _ hrs Hr.u hl).mono ?_
   rintro e w2 ⟨rfl, m2, rfl⟩
   go_wp2_with fail
   go_ret
   exact ⟨rfl, m + m2, by simp [World.drewN]⟩
  ·have Hw := hI hw
   have Ho := hI hc
   have hpl : p.length ≤ 199 := by simp at hl; omega
   have hlen : (p ++ [((126 : Int), (0 : Int))]).length = p.length + 1 := by simp
   rw [hlen]
   clear hw hc hlen
   go_enter Tryz.func116, Tryz.ntmps116
   go_wp2_with fail
   refine (cut_any t _ hs).mono ?_
   rintro e w1 ⟨o, l, r, rfl, ⟨hco, hcl, hcr⟩, m, rfl⟩
   obtain rfl : (126 : Int) = o := Ho.u.symm.trans hco
   have Hr : Hid (Wf n (L r) p) := by show Wf _ _ _; rw [hcr]; exact Hw.u
   have hrs : r.size ≤ 200 := Nat.le_trans (size_of_L hcr (cut_le (L t)).2) hs
   clear hco hcl hcr Hw Ho
   go_wp2_with fail
   refine (Hih.u r p _ hrs Hr.u (by omega)).mono ?_
   rintro e w2 ⟨rfl, m2, rfl⟩
   go_wp2_with fail
   go_ret
   exact ⟨retI' (by omega), m + m2, by simp [World.drewN]⟩
  ·have Hp := hI hp
   have Hq := hI hq
   have Ho := hI hc
   have hpl : p.length + q.length ≤ 199 := by simp at hl; omega
   obtain ⟨oo, hoo⟩ : ∃ oo, (cut (L t)).1 = oo := ⟨_, rfl⟩
   have hlen : (p ++ q ++ [((cut (L t)).1, (0 : Int))]).length = p.length + q.length + 1 := by simp; omega
   rw [hlen]
   have Hoo := hI hoo
   clear hp hq hc hlen hoo hl
   go_enter Tryz.func116, Tryz.ntmps116
   go_wp2_with fail
   refine (cut_any t _ hs).mono ?_
   rintro e w1 ⟨o, l, r, rfl, ⟨hco, hcl, hcr⟩, m, rfl⟩
   have ho := Ho.u
   rw [hco] at ho
   have Hl : Hid (Wf n (L l) p) := by show Wf _ _ _; rw [hcl]; exact Hp.u
   have Hr : Hid (Wf n (L r) q) := by show Wf _ _ _; rw [hcr]; exact Hq.u
   have hls : l.size ≤ 200 := Nat.le_trans (size_of_L hcl (cut_le (L t)).1) hs
   have hrs : r.size ≤ 200 := Nat.le_trans (size_of_L hcr (cut_le (L t)).2) hs
   have n40 := op_ne ho 40 rfl
   have n126 := op_ne ho 126 rfl
   have n0 := op_ne ho 0 rfl
   clear hco hcl hcr Hp Hq Ho ho Hoo
   go_wp2_with fail
   refine (Hih.u l p _ hls Hl.u (by omega)).mono ?_
   rintro e w2 ⟨rfl, m2, rfl⟩
   go_wp2_with fail
   refine (Hih.u r q _ hrs Hr.u (by omega)).mono ?_
   rintro e w3 ⟨rfl, m3, rfl⟩
   go_wp2_with fail
   go_ret
   exact ⟨retI' (by omega), m + m2 + m3, by simp [World.drewN, Nat.add_assoc]⟩
end Go.Proofs.YtdchbenfccofpaaGreatDoor
