/- Codes: the program's coder: workOut at one number behind none. Codes: the program's coder: workOut as a whole; lay. Codes: words; the code of a row; the codes of a report. Codes: the program's Compile. Refused: the law's walk. -/
import Derived.Test.YtdchbenfccofpaaGreatDoorF20
import Derived.Test.YtdchbenfccofpaaGreatDoorF18
import Derived.Test.YtdchbenfccofpaaGreatDoorF16
import Derived.Test.YtdchbenfccofpaaGreatDoorF17
import Derived.Test.YtdchbenfccofpaaGreatDoorF19
import Derived.Test.YtdchbenfccofpaaGreatDoorF08
namespace Go.Proofs.YtdchbenfccofpaaGreatDoor
open Go.RowKit Db

set_option maxRecDepth 100000 in
set_option maxHeartbeats 4000000 in
/-- An operation behind one number that is the only word. -/
theorem workOut_one (b : Nat) (v : Value) (o y : Int) (w : World) (h : Cd w b v [(48, y)]) (ho : (o == 126) = false) :
    Calls Tryz.prog 192 #[.pointer (some ⟨b, 0, none⟩), .int .u8 o] w fun e w' => e = .returned (.bool false) ∧ Cd w' b v [(48, y)] ∧ Frm w.heap.size (XR b v) w w' := by
  obtain ⟨ao, cap, rfl⟩ := ownsRow_form h.own
  have c0 := h.blk.cell 0
  have hbl := h.blk.lt
  simp only [List.getElem?_toArray, List.getElem?_cons_zero] at c0
  obtain ⟨g, cap', e1, hg, hg'⟩ := ownsRow_some h.own (by simp)
  obtain ⟨rfl, rfl⟩ : ao = some ⟨g, 0, none⟩ ∧ cap = cap' := by cases e1; exact ⟨rfl, rfl⟩
  clear e1
  have d1 := ownsRow_cell h.own (j := 0) (u := .int .u8 48) rfl
  have d2 := ownsRow_cell h.own (j := 1) (u := .int .i64 y) rfl
  simp only [List.length_cons, List.length_nil] at c0
  have H := hide h
  clear h
  go_enter Tryz.func192, Tryz.ntmps192
  go_wp2_with fail
  refine (of_any y _).mono ?_
  rintro e w1 ⟨rfl, hw1⟩
  obtain ⟨W1, hW1, B1, hbw1, hs1⟩ := one_new w1 #[.int .i64 0, .int .i64 0] 205
  have hw0 := hw1.size
  have Hb1 := hide (hw1.then hbw1)
  obtain ⟨r0, r1, z0, z1, l1⟩ := two_cells B1
  clear B1 hbw1 hw1 c0 d1 d2
  go_wp2_with fail
  go_ret
  have hb : Below w.heap.size w ((W1.setCell ⟨w1.heap.size, 0, none⟩ (.int .i64 0)).setCell ⟨w1.heap.size, 1, none⟩ (.int .i64 y)) := ((unhide Hb1).setCell (by simp; omega) _).setCell (by simp; omega) _
  exact ⟨rfl, (unhide H).below hb, hb.frm⟩

set_option maxRecDepth 100000 in
set_option maxHeartbeats 4000000 in
/-- An operation behind one number, behind a word that is none. -/
theorem workOut_two (b : Nat) (v : Value) (q : List Pt) (o s x y : Int) (w : World) (h : Cd w b v (q ++ [(s, x), (48, y)])) (hl : (q ++ [(s, x), (48, y)]).length ≤ 400) (hs : (s == 48) = false) (ho : (o == 126) = false) :
    Calls Tryz.prog 192 #[.pointer (some ⟨b, 0, none⟩), .int .u8 o] w fun e w' => e = .returned (.bool false) ∧ Cd w' b v (q ++ [(s, x), (48, y)]) ∧ Frm w.heap.size (XR b v) w w' := by
  obtain ⟨ao, cap, rfl⟩ := ownsRow_form h.own
  have c0 := h.blk.cell 0
  have hbl := h.blk.lt
  simp only [List.getElem?_toArray, List.getElem?_cons_zero] at c0
  obtain ⟨g, cap', e1, hg, hg'⟩ := ownsRow_some h.own (by simp)
  obtain ⟨rfl, rfl⟩ : ao = some ⟨g, 0, none⟩ ∧ cap = cap' := by cases e1; exact ⟨rfl, rfl⟩
  clear e1
  have d1 := ownsRow_cell h.own (j := q.length * 2) (cellsP_at q (s, x) [(48, y)]).1
  have d2 := ownsRow_cell h.own (j := q.length * 2 + 1) (cellsP_at q (s, x) [(48, y)]).2
  have happ : q ++ [(s, x), ((48 : Int), y)] = (q ++ [(s, x)]) ++ [(48, y)] := by simp
  have hc1 := cellsP_at (q ++ [(s, x)]) (48, y) []
  rw [← happ, show (q ++ [(s, x)]).length = q.length + 1 by simp] at hc1
  have d3 := ownsRow_cell h.own (j := (q.length + 1) * 2) hc1.1
  have d4 := ownsRow_cell h.own (j := (q.length + 1) * 2 + 1) hc1.2
  have hlen : (q ++ [(s, x), ((48 : Int), y)]).length = q.length + 1 + 1 := by simp
  rw [hlen] at c0
  have hq : q.length ≤ 398 := by simp at hl; omega
  have hs2 : ¬ s = 48 := by simpa using hs
  have H := hide h
  clear h hl happ hc1
  go_enter Tryz.func192, Tryz.ntmps192
  go_wp2_with fail
  refine (of_any y _).mono ?_
  rintro e w1 ⟨rfl, hw1⟩
  obtain ⟨W1, hW1, B1, hbw1, hs1⟩ := one_new w1 #[.int .i64 0, .int .i64 0] 205
  have hw0 := hw1.size
  have Hb1 := hide (hw1.then hbw1)
  obtain ⟨r0, r1, z0, z1, l1⟩ := two_cells B1
  have c0' := ((unhide H).below (unhide Hb1)).blk.cell 0
  simp only [List.getElem?_toArray, List.getElem?_cons_zero, hlen] at c0'
  have d1' := ((unhide Hb1).cell (p := ⟨g, q.length * 2, none⟩) hg').trans d1
  have d2' := ((unhide Hb1).cell (p := ⟨g, q.length * 2 + 1, none⟩) hg').trans d2
  have n1 : ¬ b = w1.heap.size := by omega
  have n2 : ¬ g = w1.heap.size := by omega
  clear B1 hbw1 hw1 c0 d1 d2 d3 d4
  go_wp2_with fail
  rotate_left
  · exfalso
    first | omega | simp_all
  go_ret
  have hb : Below w.heap.size w ((W1.setCell ⟨w1.heap.size, 0, none⟩ (.int .i64 0)).setCell ⟨w1.heap.size, 1, none⟩ (.int .i64 y)) := ((unhide Hb1).setCell (by simp; omega) _).setCell (by simp; omega) _
  exact ⟨rfl, (unhide H).below hb, hb.frm⟩

end Go.Proofs.YtdchbenfccofpaaGreatDoor
namespace Go.Proofs.YtdchbenfccofpaaGreatDoor
open Go.RowKit Db

theorem fld_nil (p : Pt) : fld p [] = none := by
  unfold fld
  split
  · rfl
  · split <;> rfl
theorem snocP (ws : List Pt) : ws = [] ∨ ∃ q p, ws = q ++ [p] := by
  rcases List.eq_nil_or_concat ws with h | ⟨q, p, h⟩
  · exact .inl h
  · exact .inr ⟨q, p, by rw [h, List.concat_eq_append]⟩
theorem repl_some {c : Cl} {q x : List Pt} (h : c.2 = 0) : repl c q x = q ++ [(48, c.1)] := by unfold repl; rw [h]; rfl
theorem repl_none {c : Cl} {q x : List Pt} (h : ¬ c.2 = 0) : repl c q x = q ++ x := by unfold repl; rw [if_neg (by simpa using h)]

/-- workOut: what comes of the last words, if a number does. -/
theorem workOut_any (b : Nat) (v : Value) (ws : List Pt) (p : Pt) (w : World) (h : Cd w b v ws) (hl : ws.length ≤ 400) (hr : ∀ x ∈ ws, inR x.2 = true) (ho : opdB p.1 = false) :
    Calls Tryz.prog 192 #[.pointer (some ⟨b, 0, none⟩), .int .u8 p.1] w fun e w' => ∃ v', e = .returned (.bool (fld p ws.reverse).isSome) ∧ Cd w' b v' ((fld p ws.reverse).getD ws.reverse).reverse ∧ Frm w.heap.size (XR b v) w w' := by
  have hbl := h.blk.lt
  rcases snocP ws with rfl | ⟨q, y, rfl⟩
  · refine (workOut_no b v [] p.1 w h hl (by simp)).mono ?_
    rintro e w1 ⟨rfl, rfl⟩
    simp only [List.reverse_nil, fld_nil]
    exact ⟨v, rfl, h, Frm.refl _ _ _⟩
  · obtain ⟨y1, y2⟩ := y
    by_cases hy : y1 = 48
    · subst hy
      have hyr := hr (48, y2) (by simp)
      simp only at hyr
      by_cases h126 : p.1 = 126
      · have e126 : (p.1 == 126) = true := by simp [h126]
        rw [h126]
        refine (workOut_neg b v q y2 w h hl hyr).mono ?_
        rintro e w1 ⟨v', rfl, hc, hb⟩
        have hf : fld p (q ++ [(48, y2)]).reverse = if (don 45 (0, 0) (y2, 0)).2 == 0 then some ((48, (don 45 (0, 0) (y2, 0)).1) :: q.reverse) else none := by
          unfold fld
          rw [ho, e126]
          simp
        refine ⟨v', ?_, ?_, hb⟩
        · rw [hf]; cases ((don 45 (0, 0) (y2, 0)).2 == 0) <;> rfl
        · rw [hf]
          by_cases h0 : (don 45 (0, 0) (y2, 0)).2 = 0
          · rw [repl_some h0] at hc; rw [if_pos (by simpa using h0)]; simpa using hc
          · rw [repl_none h0] at hc; rw [if_neg (by simpa using h0)]; simpa using hc
      · have e126 : (p.1 == 126) = false := by simpa using h126
        rcases snocP q with rfl | ⟨q, x, rfl⟩
        · refine (workOut_one b v p.1 y2 w (by simpa using h) e126).mono ?_
          rintro e w1 ⟨rfl, hc, hb⟩
          have hf : fld p ([] ++ [((48 : Int), y2)]).reverse = none := by unfold fld; rw [ho, e126]; rfl
          exact ⟨v, by rw [hf]; rfl, by rw [hf]; simpa using hc, hb⟩
        · obtain ⟨x1, x2⟩ := x
          have happ : q ++ [(x1, x2)] ++ [((48 : Int), y2)] = q ++ [(x1, x2), (48, y2)] := by simp
          rw [happ] at h hl hr
          by_cases hx : x1 = 48
          · subst hx
            have hxr := hr (48, x2) (by simp)
            simp only at hxr
            refine (workOut_bin b v q p.1 x2 y2 w h hl hxr hyr e126).mono ?_
            rintro e w1 ⟨v', rfl, hc, hb⟩
            have hf : fld p (q ++ [((48 : Int), x2)] ++ [((48 : Int), y2)]).reverse = if (don p.1 (x2, 0) (y2, 0)).2 == 0 then some ((48, (don p.1 (x2, 0) (y2, 0)).1) :: q.reverse) else none := by
              unfold fld
              rw [ho, e126]
              simp
            refine ⟨v', ?_, ?_, hb⟩
            · rw [hf]; cases ((don p.1 (x2, 0) (y2, 0)).2 == 0) <;> rfl
            · rw [hf]
              by_cases h0 : (don p.1 (x2, 0) (y2, 0)).2 = 0
              · rw [repl_some h0] at hc; rw [if_pos (by simpa using h0)]; simpa using hc
              · rw [repl_none h0] at hc; rw [if_neg (by simpa using h0)]; simpa using hc
          · have ex : (x1 == 48) = false := by simpa using hx
            refine (workOut_two b v q p.1 x1 x2 y2 w h hl ex e126).mono ?_
            rintro e w1 ⟨rfl, hc, hb⟩
            have hf : fld p (q ++ [(x1, x2)] ++ [((48 : Int), y2)]).reverse = none := by
              unfold fld
              rw [ho, e126]
              simp [ex]
            exact ⟨v, by rw [hf]; rfl, by rw [hf]; simpa using hc, hb⟩
    · have ey : (y1 == 48) = false := by simpa using hy
      refine (workOut_no b v _ p.1 w h hl ?_).mono ?_
      · intro q' p' e
        have := List.append_inj' e rfl
        obtain ⟨_, e2⟩ := this
        simp at e2
        rw [← e2]; exact ey
      · rintro e w1 ⟨rfl, rfl⟩
        have hf : fld p (q ++ [(y1, y2)]).reverse = none := by
          unfold fld
          rw [ho]
          simp only [List.reverse_append, List.reverse_cons, List.reverse_nil, List.nil_append, List.cons_append]
          cases (p.1 == 126) with
          | true => simp [ey]
          | false =>
            simp only [Bool.false_eq_true, if_false]
            cases q.reverse with
            | nil => rfl
            | cons x t => simp [ey]
        exact ⟨v, by rw [hf]; rfl, by rw [hf]; simpa using h, Frm.refl _ _ _⟩

set_option maxRecDepth 100000 in
set_option maxHeartbeats 4000000 in
theorem clay_any (b : Nat) (v : Value) (ws : List Pt) (s n : Int) (w : World) (h : Cd w b v ws) (hl : ws.length < 400) (hr : ∀ x ∈ ws, inR x.2 = true) :
    Calls Tryz.prog 149 #[.pointer (some ⟨b, 0, none⟩), .agg #[.int .u8 s, .int .i64 n]] w fun e w' => e = .returned (.tuple #[]) ∧ (∃ v', Cd w' b v' (lay ws.reverse (s, n)).reverse) ∧ Below b w w' := by
  obtain ⟨ii, hi, hz0, hz1, hz2⟩ := info_parts info_part
  have hbl := h.blk.lt
  cases ho : opdB s with
  | true =>
    have hf : fld (s, n) ws.reverse = none := by unfold fld; rw [if_pos ho]
    have Hfin : Hid (∀ (w' : World) (v' : Value), Cd w' b v' (ws ++ [(s, n)]) → Cd w' b v' (lay ws.reverse (s, n)).reverse) := by
      intro w' v' hc
      unfold lay; rw [hf]; simpa using hc
    have H := hide h
    clear h hf hr
    go_enter Tryz.func149, Tryz.ntmps149
    go_wp2_with fail
    refine (isOperand_any s n _).mono ?_
    rintro e w3 ⟨rfl, hb3⟩
    rw [ho]
    have Hb3 : Hid (Below b w w3) := (((Below.refl _ _).alloc (Nat.le_refl _) _).then' (by simp) hb3).mono (Nat.le_of_lt hbl)
    have HC3 := hide (((unhide H).below ((Below.refl _ _).alloc (Nat.le_refl _) (.cells #[.int .u8 s, .int .i64 n] 197))).below hb3)
    have HX3 := hide ((Blk.new w #[.int .u8 s, .int .i64 n] 197).kept hb3)
    have hs3 := hb3.size
    simp at hs3
    clear hb3
    have hb3l := (unhide HC3).blk.lt
    obtain ⟨ao, cap, hvv⟩ := ownsRow_form (unhide HC3).own
    subst hvv
    have c0 := (unhide HC3).blk.cell 0
    have z0 := (unhide HC3).blk.frozen 0
    simp only [List.getElem?_toArray, List.getElem?_cons_zero] at c0
    obtain ⟨p0, p1, _, _, lp⟩ := two_cells (unhide HX3)
    have Hown2 := hide (unhide HC3).own
    have Hnb : Hid (Blk (w3.alloc (.cells #[.int .u8 s, .int .i64 n] 197)) w3.heap.size #[.int .u8 s, .int .i64 n] 197) := Blk.new _ _ _
    have Hne : Hid (some b ≠ (Value.slice ao ws.length cap).ownBlock) := own_ne' (unhide HC3).own (Nat.lt_succ_self b)
    have hne1 : w3.heap.size ≠ b := by omega
    have hne2 : w3.heap.size ≠ w.heap.size := by omega
    go_upto_region 4 with fail
    go_region_law (refine step_append_lies _ rfl (.tmp 17) (.tmp 19) 163 rfl (b + 1) 197 ii (.agg #[.int .u8 0, .int .i64 0]) 2 16 Tryz.underlying163 hi hz0 hz1 hz2 rfl (by decide) (.slice ao ws.length cap) ws.length _ (by simp [Act.eval]) (by first | exact ((unhide Hown2).alloc _).drew | exact ((unhide Hown2).alloc _)) ⟨w3.heap.size, 0, none⟩ 1 1 [.int .u8 s, .int .i64 n] (by simp [Act.eval]) rfl (World.news_of_block (by exact unhide Hnb)) (fun x hx => by simp at hx; rcases hx with rfl | rfl <;> rfl) (by decide) (by unfold maxLen; omega) (by omega) (by simp <;> omega) (w3.heap.size + 1) (by simp) ?_; intro g2 cap2 w5 hown5 hgr5 hat5 hlt5; have HB5 := hide (Blk.grown (cs := #[.slice ao ws.length cap]) (T := 226) (b := b) (by exact ((unhide HC3).blk.alloc _)) hgr5 (unhide Hne)); have y2 := (unhide HB5).frozen 0; have y3 := (unhide HB5).cell 0; simp only [List.getElem?_toArray, List.getElem?_cons_zero] at y3; have Hown5 := hide hown5; have Hgr5 := hide hgr5; have Hat5 := hide hat5; clear hown5 hgr5 hat5)
    all_goals
      go_wp2_with fail
      go_end0
      refine ⟨rfl, ⟨_, unhide Hfin _ _ (cd_pushed (unhide HB5) (unhide Hown5))⟩, ?_⟩
      exact ((((unhide Hb3).alloc (by omega) _).drew).grown (unhide Hgr5) (by simp; omega) (fun k hk => by have := ((unhide Hown2).lt k hk).1; omega)).setCell (Nat.le_refl b) _
  | false =>
    have Hwo := hide (fun (wx : World) (hb : Below w.heap.size w wx) => workOut_any b v ws (s, n) wx (h.below hb) (by omega) hr ho)
    have H := hide h
    obtain ⟨f, hf⟩ : ∃ f, fld (s, n) ws.reverse = f := ⟨_, rfl⟩
    have Hlay : Hid (lay ws.reverse (s, n) = f.getD ((s, n) :: ws.reverse)) := by show _ = _; unfold lay; rw [hf]
    rw [hf] at Hwo
    clear h hf hr
    go_enter Tryz.func149, Tryz.ntmps149
    go_wp2_with fail
    refine (isOperand_any s n _).mono ?_
    rintro e w2 ⟨rfl, hb2⟩
    rw [ho]
    have Hb2 : Hid (Below w.heap.size w w2) := ((Below.refl _ _).alloc (Nat.le_refl _) _).then' (by simp) hb2
    have HX2 := hide ((Blk.new w #[.int .u8 s, .int .i64 n] 197).kept hb2)
    obtain ⟨f0, f1, _, _, lf⟩ := two_cells (unhide HX2)
    have hs2 := hb2.size
    simp at hs2
    clear hb2
    go_wp2_with fail
    refine (unhide Hwo _ (unhide Hb2)).mono ?_
    rintro e w3 ⟨v', rfl, hc3, hb3⟩
    have HX3 : Hid (Blk w3 w.heap.size #[.int .u8 s, .int .i64 n] 197) := (unhide HX2).frm hb3 (by omega) (by
      rintro (e | e)
      · omega
      · have := ((unhide H).own.lt _ e.symm).2; omega)
    have Hb3 : Hid (Below b w w3) := ((unhide Hb2).mono (Nat.le_of_lt hbl)).trans (hb3.below (by omega) (by
      rintro k hk (e | e)
      · omega
      · have := ((unhide H).own.lt _ e.symm).1; omega))
    have hs3 : w.heap.size + 1 ≤ w3.heap.size := by have := hb3.size; omega
    clear hb3 f0 f1 lf
    cases f with
    | some qs =>
      have Hc3 : Hid (Cd w3 b v' (lay ws.reverse (s, n)).reverse) := by rw [unhide Hlay]; exact hc3
      clear hc3
      go_wp2_with fail
      refine bodyPost_ret (v := .tuple #[]) (by simp [results, Tryz.results149, go_sem]) rfl ⟨rfl, ⟨_, unhide Hc3⟩, unhide Hb3⟩
    | none =>
      have HC3 : Hid (Cd w3 b v' ws) := by show Cd _ _ _ _; simpa using hc3
      have Hfin : Hid (∀ (w' : World) (v' : Value), Cd w' b v' (ws ++ [(s, n)]) → Cd w' b v' (lay ws.reverse (s, n)).reverse) := by
        intro w' v' hc
        rw [unhide Hlay]; simpa using hc
      clear hc3
      have hb3l := (unhide HC3).blk.lt
      obtain ⟨ao, cap, hvv⟩ := ownsRow_form (unhide HC3).own
      subst hvv
      have c0 := (unhide HC3).blk.cell 0
      have z0 := (unhide HC3).blk.frozen 0
      simp only [List.getElem?_toArray, List.getElem?_cons_zero] at c0
      obtain ⟨p0, p1, _, _, lp⟩ := two_cells (unhide HX3)
      have Hown2 := hide (unhide HC3).own
      have Hnb : Hid (Blk (w3.alloc (.cells #[.int .u8 s, .int .i64 n] 197)) w3.heap.size #[.int .u8 s, .int .i64 n] 197) := Blk.new _ _ _
      have Hne : Hid (some b ≠ (Value.slice ao ws.length cap).ownBlock) := own_ne' (unhide HC3).own (Nat.lt_succ_self b)
      have hne1 : w3.heap.size ≠ b := by omega
      have hne2 : w3.heap.size ≠ w.heap.size := by omega
      go_upto_region 4 with fail
      go_region_law (refine step_append_lies _ rfl (.tmp 17) (.tmp 19) 163 rfl (b + 1) 197 ii (.agg #[.int .u8 0, .int .i64 0]) 2 16 Tryz.underlying163 hi hz0 hz1 hz2 rfl (by decide) (.slice ao ws.length cap) ws.length _ (by simp [Act.eval]) (by first | exact ((unhide Hown2).alloc _).drew | exact ((unhide Hown2).alloc _)) ⟨w3.heap.size, 0, none⟩ 1 1 [.int .u8 s, .int .i64 n] (by simp [Act.eval]) rfl (World.news_of_block (by exact unhide Hnb)) (fun x hx => by simp at hx; rcases hx with rfl | rfl <;> rfl) (by decide) (by unfold maxLen; omega) (by omega) (by simp <;> omega) (w3.heap.size + 1) (by simp) ?_; intro g2 cap2 w5 hown5 hgr5 hat5 hlt5; have HB5 := hide (Blk.grown (cs := #[.slice ao ws.length cap]) (T := 226) (b := b) (by exact ((unhide HC3).blk.alloc _)) hgr5 (unhide Hne)); have y2 := (unhide HB5).frozen 0; have y3 := (unhide HB5).cell 0; simp only [List.getElem?_toArray, List.getElem?_cons_zero] at y3; have Hown5 := hide hown5; have Hgr5 := hide hgr5; have Hat5 := hide hat5; clear hown5 hgr5 hat5)
      all_goals
        go_wp2_with fail
        go_end0
        refine ⟨rfl, ⟨_, unhide Hfin _ _ (cd_pushed (unhide HB5) (unhide Hown5))⟩, ?_⟩
        exact ((((unhide Hb3).alloc (by omega) _).drew).grown (unhide Hgr5) (by simp; omega) (fun k hk => by have := ((unhide Hown2).lt k hk).1; omega)).setCell (Nat.le_refl b) _

end Go.Proofs.YtdchbenfccofpaaGreatDoor
namespace Go.Proofs.YtdchbenfccofpaaGreatDoor
open Go.RowKit Db

/-- A word of a code. -/
def wordC (p : Pt) : List UInt8 := if p.1 == 48 then Lib.itoa p.2 else if opdB p.1 then u8 p.1 :: Lib.itoa p.2 else [u8 p.1]
/-- The signs of parts. -/
def sgB (s : Int) : Bool := opdB s || opB s || s == 126
theorem sg_u8 {s : Int} (h : sgB s = true) : s = ((u8 s).toNat : Int) := by
  simp [sgB, opdB, opB, selB, oldB] at h
  rcases h with (((rfl | (rfl | rfl) | rfl) | rfl | rfl) | ((rfl | rfl) | rfl) | rfl) | rfl <;> rfl
theorem wordC_len {p : Pt} (h : inR p.2 = true) : (wordC p).length ≤ 22 := by
  have hr := inR_iff.1 h
  have := Lib.itoa_length_le p.2 hr.1 hr.2
  unfold wordC
  split
  · omega
  · split
    · rw [List.length_cons]; omega
    · simp

set_option maxRecDepth 100000 in
set_option maxHeartbeats 1000000 in
theorem cword_any (s n : Int) (w : World) (hs : sgB s = true) (hin : inR n = true) (ht : Tab w) :
    Calls Tryz.prog 146 #[.agg #[.int .u8 s, .int .i64 n]] w fun e w' => ∃ u : ByteArray, e = .returned (.string u) ∧ L u = wordC (s, n) ∧ u.size ≤ 22 ∧ Below w.heap.size w w' := by
  have hr := inR_iff.1 hin
  have Hlen := hide (wordC_len (p := (s, n)) hin)
  have Ht := hide ht
  by_cases h48 : s = 48
  · subst h48
    clear ht hs hin
    go_enter Tryz.func146, Tryz.ntmps146
    go_wp2_with fail
    refine (itoa_any n _ hr.1 hr.2 ((unhide Ht).below (by exact (Below.refl _ _).alloc (Nat.le_refl _) _))).mono ?_
    rintro e w1 ⟨u, rfl, hu, hb⟩
    have Hu := hide hu
    have Hb : Hid (Below w.heap.size w w1) := ((Below.refl _ _).alloc (Nat.le_refl _) _).then' (by simp) hb
    clear hu hb
    go_wp2_with fail
    go_ret
    exact ⟨u, rfl, unhide Hu, by rw [size_L, unhide Hu]; exact unhide Hlen, unhide Hb⟩
  · have n48 : (s == 48) = false := by simpa using h48
    obtain ⟨c, hc⟩ : ∃ c : UInt8, u8 s = c := ⟨_, rfl⟩
    have hss := sg_u8 hs
    rw [hc] at hss
    obtain ⟨o, ho⟩ : ∃ o, opdB s = o := ⟨_, rfl⟩
    have HW : Hid (wordC (s, n) = if o then c :: Lib.itoa n else [c]) := by show _ = _; unfold wordC; simp only [n48, ho, hc]; rfl
    have Hio := hide (fun wx : World => isOperand_any s n wx)
    rw [ho] at Hio
    have HL : Hid (∀ u : ByteArray, L u = wordC (s, n) → u.size ≤ 22) := fun u hu => by rw [size_L, hu]; exact unhide Hlen
    obtain ⟨wc, hwc⟩ : ∃ wc, wordC (s, n) = wc := ⟨_, rfl⟩
    rw [hwc] at HW HL ⊢
    clear h48 hs ht hin ho hc hwc Hlen
    subst hss
    go_enter Tryz.func146, Tryz.ntmps146
    go_wp2_with fail
    refine (signText_any c _).mono ?_
    rintro e w1 ⟨u1, rfl, hu1, hb1⟩
    have f0 := hb1.cell (p := ⟨w.heap.size, 0, none⟩) (by simp)
    have f1 := hb1.cell (p := ⟨w.heap.size, 1, none⟩) (by simp)
    have hb1s := hb1.size
    simp at f0 f1 hb1s
    have hs1 : u1.size ≤ 1 := by rw [size_L, hu1]; exact Nat.le_refl _
    have Hu1 := hide hu1
    have Hb1 : Hid (Below w.heap.size w w1) := ((Below.refl _ _).alloc (Nat.le_refl _) _).then' (by simp) hb1
    clear hu1 hb1
    go_wp2_with fail
    refine (unhide Hio _).mono ?_
    rintro e w2 ⟨rfl, hb2⟩
    have g1 := hb2.cell (p := ⟨w.heap.size, 1, none⟩) (by show w.heap.size < _; omega)
    rw [f1] at g1
    have hb2s := hb2.size
    have Hb2 := hide ((unhide Hb1).then hb2)
    clear hb2 f0 f1 Hio
    cases o with
    | true =>
      go_wp2_with fail
      refine (itoa_any n _ hr.1 hr.2 ((unhide Ht).below (unhide Hb2))).mono ?_
      rintro e w3 ⟨u3, rfl, hu3, hb3⟩
      have hs3 := itoa_size hr.1 hr.2 hu3
      have Hu3 := hide hu3
      have Hb3 := hide ((unhide Hb2).then hb3)
      clear hu3 hb3
      go_wp2_with fail
      go_ret
      have hL : L (u1 ++ u3) = wc := by rw [L_append, unhide Hu1, unhide Hu3, unhide HW]; rfl
      exact ⟨_, rfl, hL, unhide HL _ hL, unhide Hb3⟩
    | false =>
      go_wp2_with fail
      go_ret
      have hL : L u1 = wc := by rw [unhide Hu1, unhide HW]; rfl
      exact ⟨_, rfl, hL, unhide HL _ hL, unhide Hb2⟩

/-- The code of a row, in words. -/
def codT (ps : List Pt) : List UInt8 := jn 32 ((cod ps).reverse.map wordC)
def PtS (p : Pt) : Prop := sgB p.1 = true ∧ inR p.2 = true
theorem Cd.drop {w w' : World} {b : Nat} {v : Value} {ws : List Pt} (h : Cd w b v ws) (hb : Below w.heap.size w w') : Cd w' b v ws := h.below hb
theorem fold_take {ps : List Pt} {j : Nat} {p : Pt} (h : ps[j]? = some p) : (ps.take (j + 1)).foldl lay [] = lay ((ps.take j).foldl lay []) p := by
  rw [List.take_add_one, h]
  simp

set_option maxRecDepth 100000 in
set_option maxHeartbeats 8000000 in
theorem compileRow_any (vp : Value) (ps : List Pt) (B : Nat) (w : World) (hp : w.ownsRow B 197 2 vp ps.length (cellsP ps)) (hps : ∀ p ∈ ps, PtS p) (hpl : ps.length ≤ 200) (ht : Tab w) :
    Calls Tryz.prog 108 #[.agg #[vp]] w fun e w' => ∃ u : ByteArray, e = .returned (.string u) ∧ L u = codT ps ∧ u.size ≤ 4600 ∧ Below w.heap.size w w' := by
  obtain ⟨aop, capp, rfl⟩ := ownsRow_form hp
  have Hp := hide hp
  have Hall : Hid (∀ j, ∀ x ∈ (ps.take j).foldl lay [], PtS x) := fun j => all_cod (P := PtS) (fun v hv => ⟨rfl, hv⟩) _ (by simp) (fun x hx => hps x (List.mem_of_mem_take hx))
  have Hlen : Hid (∀ j, ((ps.take j).foldl lay []).length ≤ 200) := fun j => by
    have := len_cod (ps.take j) []
    have h2 := List.length_take_le' j ps
    simp only [List.length_nil] at this
    omega
  have Ht := hide ht
  have Hst : Hid (Cd ((w.alloc (.cells #[.slice aop ps.length capp] 165)).alloc (.cells #[.slice none 0 0] 226)) (w.heap.size + 1) (.slice none 0 0) []) := by
    refine ⟨?_, World.ownsRow_nil _ _ _ _⟩
    have := Blk.new (w.alloc (.cells #[.slice aop ps.length capp] 165)) #[.slice none 0 0] 226
    simpa using this
  clear hp hps ht
  go_enter Tryz.func108, Tryz.ntmps108
  go_wp2_with fail
  go_loopg [14] ps.length (fun m i wr => ∃ j : Nat, ∃ v, j ≤ ps.length ∧ m = ps.length - j ∧ i = .int .i64 j ∧ w.heap.size + 2 ≤ wr.heap.size ∧ Hid (Cd wr (w.heap.size + 1) v ((ps.take j).foldl lay []).reverse) ∧ Hid (Below w.heap.size w wr))
  case atStart => exact ⟨0, .slice none 0 0, by omega, rfl, rfl, by simp, unhide Hst, ((Below.refl _ _).alloc (Nat.le_refl _) _).alloc (by simp) _⟩
  case round =>
    obtain ⟨j, v, hj, rfl, rfl, hsz, HC, Hb⟩ := hrel
    by_cases hlt : j < ps.length
    · obtain ⟨⟨s, n⟩, hpj⟩ : ∃ p, ps[j]? = some p := ⟨ps[j], List.getElem?_eq_getElem hlt⟩
      obtain ⟨g2, _, e1, hg2, hg2'⟩ := ownsRow_some (unhide Hp) (by omega)
      simp only [Value.slice.injEq, true_and] at e1
      obtain ⟨rfl, rfl⟩ := e1
      have hc := two_get (fun p : Pt => Value.int .u8 p.1) (fun p => Value.int .i64 p.2) ps j (s, n) hpj
      have hro := ownsRow_below (unhide Hp) (unhide Hb)
      have d1 := ownsRow_cell hro (j := j * 2) hc.1
      have d2 := ownsRow_cell hro (j := j * 2 + 1) hc.2
      have Hft := hide (fold_take hpj)
      have Hlay : Hid (∀ o : Obj, Calls Tryz.prog 149 #[.pointer (some ⟨w.heap.size + 1, 0, none⟩), .agg #[.int .u8 s, .int .i64 n]] (wr.alloc o) fun e w' => e = .returned (.tuple #[]) ∧ (∃ v', Cd w' (w.heap.size + 1) v' ((ps.take (j + 1)).foldl lay []).reverse) ∧ Below (w.heap.size + 1) (wr.alloc o) w') := by
        intro o
        have h1 := unhide Hlen j
        have := clay_any (w.heap.size + 1) v _ s n (wr.alloc o) ((unhide HC).below ((Below.refl _ _).alloc (Nat.le_refl _) o)) (by rw [List.length_reverse]; omega) (fun x hx => (unhide Hall j x (by simpa using hx)).2)
        rw [List.reverse_reverse, ← unhide Hft] at this
        exact this
      simp only at d1 d2
      clear hro hc hpj
      go_wp2_with fail
      refine (unhide Hlay _).mono ?_
      rintro e w2 ⟨rfl, ⟨v', hc2⟩, hb2⟩
      have HC2 := hide hc2
      have Hb2 := hide (((unhide Hb).alloc (by omega) _).trans (hb2.mono (by omega)))
      have hsz2 := hb2.size
      simp at hsz2
      clear hc2 hb2 Hlay
      go_wp2_with fail
      go_roundg (ps.length - (j + 1))
      case measure => omega
      case rel => exact ⟨j + 1, v', by omega, rfl, by go_num, by omega, unhide HC2, unhide Hb2⟩
    · obtain rfl : j = ps.length := by omega
      have hal := unhide Hall ps.length
      have hln := unhide Hlen ps.length
      rw [List.take_length] at HC hal hln
      obtain ⟨ws, hws⟩ : ∃ ws, (ps.foldl lay []).reverse = ws := ⟨_, rfl⟩
      have Hws : Hid (codT ps = jn 32 (ws.map wordC)) := by show _ = _; unfold codT cod; rw [hws]
      have HA : Hid (∀ x ∈ ws, PtS x) := by intro x hx; rw [← hws] at hx; exact hal x (by simpa using hx)
      have hwl : ws.length ≤ 200 := by rw [← hws, List.length_reverse]; exact hln
      rw [hws] at HC
      obtain ⟨W, hW⟩ : ∃ W, wr = W := ⟨_, rfl⟩
      rw [hW] at HC Hb hsz ⊢
      obtain ⟨aow, capw, rfl⟩ := ownsRow_form (unhide HC).own
      have c0 := (unhide HC).blk.cell 0
      simp only [List.getElem?_toArray, List.getElem?_cons_zero] at c0
      clear hal hln hws hW
      go_wp2_with fail
      go_loopg [6, 27] ws.length (fun m tv i wx => ∃ k : Nat, ∃ u : ByteArray, k ≤ ws.length ∧ m = ws.length - k ∧ i = .int .i64 k ∧ tv = .string u ∧ u.size ≤ 23 * k ∧ Hid (L u = jn 32 ((ws.map wordC).take k)) ∧ Hid (Below W.heap.size W wx))
      case atStart => exact ⟨0, ⟨#[]⟩, by omega, rfl, rfl, rfl, Nat.zero_le _, rfl, Below.refl _ _⟩
      case round =>
        obtain ⟨k, u, hk, rfl, rfl, rfl, hus, Hu, Hbx⟩ := hrel
        have hszx := (unhide Hbx).size
        by_cases hlk : k < ws.length
        · obtain ⟨⟨s, n⟩, hpk⟩ : ∃ p, ws[k]? = some p := ⟨ws[k], List.getElem?_eq_getElem hlk⟩
          have hro := ownsRow_below (unhide HC).own (unhide Hbx)
          obtain ⟨g2, _, e1, hg2, hg2'⟩ := ownsRow_some hro (by omega)
          simp only [Value.slice.injEq, true_and] at e1
          obtain ⟨rfl, rfl⟩ := e1
          have hc := two_get (fun p : Pt => Value.int .u8 p.1) (fun p => Value.int .i64 p.2) ws k (s, n) hpk
          have d1 := ownsRow_cell hro (j := k * 2) hc.1
          have d2 := ownsRow_cell hro (j := k * 2 + 1) hc.2
          have hpt := unhide HA (s, n) (List.mem_of_getElem? hpk)
          have Hxc : Hid ((ws.map wordC)[k]? = some (wordC (s, n))) := by show _ = _; rw [List.getElem?_map, hpk]; rfl
          have hbw : Below w.heap.size w wr := (unhide Hb).then' (unhide Hb).size (unhide Hbx)
          have Hcw := hide (fun (o : Obj) => cword_any s n (wr.alloc o) hpt.1 hpt.2 ((unhide Ht).below (hbw.alloc hbw.size o)))
          simp only at d1 d2
          clear hro hc hpk hpt hbw
          by_cases hk0 : k = 0
          · have hk1 : ¬ (0 : Int) < (k : Int) := by omega
            have Hk0 := hide hk0
            clear hk0
            go_wp2_with fail
            refine (unhide Hcw _).mono ?_
            rintro e w6 ⟨u6, rfl, hu6, hs6, hb6⟩
            have Hu6 : Hid (L (u ++ u6) = jn 32 ((ws.map wordC).take (k + 1))) := by
              show _ = _
              rw [L_append, unhide Hu, hu6, jn_pre (unhide Hxc), unhide Hk0, jpre_zero]; simp [jn]
            have Hs6 : Hid ((u ++ u6).size ≤ 23 * (k + 1)) := by
              show _ ≤ _
              rw [size_app]; omega
            have Hb6 := hide (((unhide Hbx).alloc hszx _).then' (by simp; omega) hb6)
            clear hu6 hb6
            go_wp2_with fail
            go_roundg (ws.length - (k + 1))
            case measure => omega
            case rel => exact ⟨k + 1, _, by omega, rfl, by go_num, rfl, unhide Hs6, unhide Hu6, unhide Hb6⟩
          · have hk1 : (0 : Int) < (k : Int) := by omega
            go_wp2_with fail
            refine (unhide Hcw _).mono ?_
            rintro e w6 ⟨u6, rfl, hu6, hs6, hb6⟩
            have Hu6 : Hid (L (u ++ ⟨#[32]⟩ ++ u6) = jn 32 ((ws.map wordC).take (k + 1))) := by
              show _ = _
              rw [L_append, L_append, unhide Hu, hu6, jn_pre (unhide Hxc), jpre_pos (sep := 32) (i := k) (by omega), show L ⟨#[32]⟩ = [32] from rfl]
            have Hs6 : Hid ((u ++ ⟨#[32]⟩ ++ u6).size ≤ 23 * (k + 1)) := by
              show _ ≤ _
              rw [size_app, size_app]; show u.size + 1 + u6.size ≤ _; omega
            have Hb6 := hide (((unhide Hbx).alloc hszx _).then' (by simp; omega) hb6)
            clear hu6 hb6
            go_wp2_with fail
            go_roundg (ws.length - (k + 1))
            case measure => omega
            case rel => exact ⟨k + 1, _, by omega, rfl, by go_num, rfl, unhide Hs6, unhide Hu6, unhide Hb6⟩
        · obtain rfl : k = ws.length := by omega
          have Hfin : Hid (L u = codT ps) := by
            show _ = _
            rw [unhide Hu, unhide Hws, List.take_of_length_le (by simp)]
          go_wp2_with fail
          go_ret
          exact ⟨u, rfl, unhide Hfin, by omega, (unhide Hb).then' (unhide Hb).size (unhide Hbx)⟩

end Go.Proofs.YtdchbenfccofpaaGreatDoor
namespace Go.Proofs.YtdchbenfccofpaaGreatDoor
open Go.RowKit Db

set_option maxRecDepth 100000 in
set_option maxHeartbeats 4000000 in
theorem repCompile_any (vp vr : Value) (vs : List Value) (pss : List (List Pt)) (B : Nat) (w : World) (ap : Option Addr) (np kp : Nat) (hvp : vp = .slice ap np kp) (hr : RowsAt w B vr vs pss) (h8 : pss.length ≤ 8) (hps : ∀ ps ∈ pss, ∀ p ∈ ps, PtS p) (ht : Tab w) :
    Calls Tryz.prog 73 #[.agg #[vp, vr]] w fun e w' => ∃ u : ByteArray, e = .returned (.string u) ∧ L u = jn 59 (pss.map codT) ∧ u.size ≤ 40000 ∧ Below w.heap.size w w' := by
  subst hvp
  obtain ⟨aor, capr, rfl⟩ := ownsRow_form hr.own
  have Hr := hide hr
  have Hps := hide hps
  have Ht := hide ht
  have hvl : vs.length ≤ 8 := by rw [hr.len]; exact h8
  have Hlen := hide hr.len
  clear hr hps ht
  go_enter Tryz.func73, Tryz.ntmps73
  go_wp2_with fail
  go_loopg [3, 9] vs.length (fun m tv i wx => ∃ k : Nat, ∃ u : ByteArray, k ≤ vs.length ∧ m = vs.length - k ∧ i = .int .i64 k ∧ tv = .string u ∧ u.size ≤ 4601 * k ∧ Hid (L u = jn 59 ((pss.map codT).take k)) ∧ Hid (Below w.heap.size w wx))
  case atStart => exact ⟨0, ⟨#[]⟩, by omega, rfl, rfl, rfl, Nat.zero_le _, rfl, (Below.refl _ _).alloc (Nat.le_refl _) _⟩
  case round =>
    obtain ⟨k, u, hk, rfl, rfl, rfl, hus, Hu, Hbx⟩ := hrel
    have hszx := (unhide Hbx).size
    by_cases hlk : k < vs.length
    · obtain ⟨v, hv⟩ : ∃ v, vs[k]? = some v := ⟨vs[k], List.getElem?_eq_getElem hlk⟩
      obtain ⟨ps, hpk⟩ : ∃ ps, pss[k]? = some ps := ⟨pss[k]'(by have := unhide Hlen; omega), List.getElem?_eq_getElem _⟩
      obtain ⟨g, _, e1, hg, hg'⟩ := ownsRow_some (unhide Hr).own (by omega)
      simp only [Value.slice.injEq, true_and] at e1
      obtain ⟨rfl, rfl⟩ := e1
      have d := ownsRow_cell (ownsRow_below (unhide Hr).own (unhide Hbx)) (j := k) hv
      have hrw := (unhide Hr).row k v ps hv hpk
      have hpl := (unhide Hr).bd ps (List.mem_of_getElem? hpk)
      obtain ⟨aov, capv, rfl⟩ := ownsRow_form hrw
      have Hxc : Hid ((pss.map codT)[k]? = some (codT ps)) := by show _ = _; rw [List.getElem?_map, hpk]; rfl
      have Hcw := hide (fun (o : Obj) => compileRow_any (.slice aov ps.length capv) ps B (wr.alloc o) ((ownsRow_below hrw (unhide Hbx)).alloc o) (unhide Hps ps (List.mem_of_getElem? hpk)) hpl ((unhide Ht).below ((unhide Hbx).alloc hszx o)))
      clear hv hpk hrw
      by_cases hk0 : k = 0
      · have hk1 : ¬ (0 : Int) < (k : Int) := by omega
        have Hk0 := hide hk0
        clear hk0
        go_wp2_with fail
        refine (unhide Hcw _).mono ?_
        rintro e w6 ⟨u6, rfl, hu6, hs6, hb6⟩
        have Hu6 : Hid (L (u ++ u6) = jn 59 ((pss.map codT).take (k + 1))) := by
          show _ = _
          rw [L_append, unhide Hu, hu6, jn_pre (unhide Hxc), unhide Hk0, jpre_zero]; simp [jn]
        have Hs6 : Hid ((u ++ u6).size ≤ 4601 * (k + 1)) := by
          show _ ≤ _
          rw [size_app]; omega
        have Hb6 := hide (((unhide Hbx).alloc hszx _).then' (by simp; omega) hb6)
        clear hu6 hb6
        go_wp2_with fail
        go_roundg (vs.length - (k + 1))
        case measure => omega
        case rel => exact ⟨k + 1, _, by omega, rfl, by go_num, rfl, unhide Hs6, unhide Hu6, unhide Hb6⟩
      · have hk1 : (0 : Int) < (k : Int) := by omega
        go_wp2_with fail
        refine (unhide Hcw _).mono ?_
        rintro e w6 ⟨u6, rfl, hu6, hs6, hb6⟩
        have Hu6 : Hid (L (u ++ ⟨#[59]⟩ ++ u6) = jn 59 ((pss.map codT).take (k + 1))) := by
          show _ = _
          rw [L_append, L_append, unhide Hu, hu6, jn_pre (unhide Hxc), jpre_pos (sep := 59) (i := k) (by omega), show L ⟨#[59]⟩ = [59] from rfl]
        have Hs6 : Hid ((u ++ ⟨#[59]⟩ ++ u6).size ≤ 4601 * (k + 1)) := by
          show _ ≤ _
          rw [size_app, size_app]; show u.size + 1 + u6.size ≤ _; omega
        have Hb6 := hide (((unhide Hbx).alloc hszx _).then' (by simp; omega) hb6)
        clear hu6 hb6
        go_wp2_with fail
        go_roundg (vs.length - (k + 1))
        case measure => omega
        case rel => exact ⟨k + 1, _, by omega, rfl, by go_num, rfl, unhide Hs6, unhide Hu6, unhide Hb6⟩
    · obtain rfl : k = vs.length := by omega
      have Hfin : Hid (L u = jn 59 (pss.map codT)) := by
        show _ = _
        rw [unhide Hu, unhide Hlen, List.take_of_length_le (by simp)]
      go_wp2_with fail
      go_ret
      exact ⟨u, rfl, unhide Hfin, by omega, unhide Hbx⟩

theorem wf_sg {n : Nat} : ∀ {e : List UInt8} {ps : List Pt}, Wf n e ps → ∀ p ∈ ps, sgB p.1 = true := by
  induction n with
  | zero => intro e ps h; exact absurd h (by simp [Wf])
  | succ n ih =>
    intro e ps h
    rcases h with ⟨_, h⟩ | ⟨_, h2⟩ | ⟨_, p, h2, rfl⟩ | ⟨h1, p, r, h2, h3, rfl⟩
    · obtain ⟨p, rfl, hp⟩ := opnd_opd h
      intro x hx
      simp at hx
      subst hx
      unfold sgB; rw [hp]; rfl
    · exact ih h2
    · intro x hx
      simp at hx
      rcases hx with hx | rfl
      · exact ih h2 x hx
      · rfl
    · intro x hx
      simp at hx
      rcases hx with hx | hx | rfl
      · exact ih h2 x hx
      · exact ih h3 x hx
      · unfold sgB; rw [h1]; simp
theorem ptS_of {t : ByteArray} {pd : List (List UInt8 × List UInt8)} {rows : List (List UInt8)} {pss : List (List Pt)} (hf : Db.Form (L t) pd rows pss) : ∀ ps ∈ pss, ∀ p ∈ ps, PtS p := by
  intro ps hps
  obtain ⟨i, hi, rfl⟩ := List.getElem_of_mem hps
  have hi2 : i < rows.length := by rw [hf.len]; exact hi
  have h := hf.row i rows[i] pss[i] (List.getElem?_eq_getElem hi2) (List.getElem?_eq_getElem hi)
  obtain ⟨n, hn⟩ := h.wf
  exact fun p hp => ⟨wf_sg hn p hp, wf_inR hn p hp⟩

/-- What Compile answers. -/
def CompIs (s u : ByteArray) (er : Int) : Prop :=
  (200 < s.size ∧ er = 1 ∧ u = ⟨#[]⟩) ∨ (s.size ≤ 200 ∧ er = 2 ∧ 0 ≤ plc 0 0 0 0 (L s) ∧ u = ⟨#[]⟩) ∨
  (s.size ≤ 200 ∧ ∃ pd rows pss pl, Db.Form (L s) pd rows pss ∧ outc (pdv pd) pss = (er, pl) ∧ ((¬ er = 0 ∧ u = ⟨#[]⟩) ∨ (er = 0 ∧ L u = jn 59 (pss.map codT) ∧ u.size ≤ 40000 ∧ ∀ ps ∈ pss, ps.length ≤ 200)))

set_option maxRecDepth 100000 in
set_option maxHeartbeats 1000000 in
theorem dayCompile_any (s : ByteArray) (w : World) (hm : s.size ≤ maxLen) (ht : Tab w) :
    Calls Tryz.prog 41 #[.string s] w fun e w' => ∃ (u : ByteArray) (er : Int), e = .returned (.tuple #[.string u, .int .i64 er]) ∧ CompIs s u er ∧ Below w.heap.size w w' := by
  by_cases hs : 200 < s.size
  · go_enter Tryz.func41, Tryz.ntmps41
    go_wp2_with fail
    refine (read_long s _ hs hm).mono ?_
    rintro e w1 ⟨rfl, hb⟩
    have Hb := hide hb
    have hsz := hb.size
    clear hb
    go_wp2_with fail
    go_ret2
    exact ⟨_, 1, rfl, .inl ⟨hs, rfl, rfl⟩, (unhide Hb).alloc hsz _⟩
  · have hs' : s.size ≤ 200 := by omega
    have Ht := hide ht
    clear ht
    go_enter Tryz.func41, Tryz.ntmps41
    go_wp2_with fail
    refine (read_short s _ hs').mono ?_
    rintro e w1 ⟨hb, ⟨p, rfl, hp, hp0⟩ | ⟨vp, vr, pd, rows, pss, er, pl, rfl, hf, ho, hz, hok⟩⟩
    · have Hb := hide hb
      have hsz := hb.size
      have Hc : Hid (CompIs s ⟨#[]⟩ 2) := .inr (.inl ⟨hs', rfl, by rw [hp]; exact hp0, rfl⟩)
      clear hb hp
      go_wp2_with fail
      go_ret2
      exact ⟨_, 2, rfl, unhide Hc, (unhide Hb).alloc hsz _⟩
    · have Hb := hide hb
      have hsz := hb.size
      by_cases h0 : er = 0
      · subst h0
        obtain ⟨hvp, vs, hvr⟩ := hok rfl
        obtain ⟨a1, k1, rfl⟩ := ownsRow_form hvp
        obtain ⟨a2, k2, rfl⟩ := ownsRow_form hvr.own
        have hsm := outc_few ho rfl
        have Hf := hide hf
        have Ho := hide ho
        have Hvp := hide hvp
        have Hvr := hide hvr
        have Hrp := hide (fun (o : Obj) => repCompile_any (.slice a1 pd.length k1) (.slice a2 vs.length k2) vs pss w.heap.size (w1.alloc o) _ _ _ rfl (hvr.kept ((Below.refl _ _).alloc (Nat.le_refl _) _)) hsm.2.1 (ptS_of hf) ((unhide Ht).below (hb.alloc hsz o)))
        clear hb hf ho hz hok hvp hvr hsm
        go_wp2_with fail
        refine (unhide Hrp _).mono ?_
        rintro e w2 ⟨u, rfl, hu, hus, hb2⟩
        have Hu := hide hu
        have Hus := hide hus
        have Hb2 : Hid (Below w.heap.size w w2) := ((unhide Hb).alloc hsz _).then' (by simp; omega) hb2
        clear hu hb2 hus
        go_wp2_with fail
        go_ret2
        exact ⟨u, 0, rfl, .inr (.inr ⟨hs', pd, rows, pss, pl, unhide Hf, unhide Ho, .inr ⟨rfl, unhide Hu, unhide Hus, (unhide Hvr).bd⟩⟩), unhide Hb2⟩
      · obtain ⟨rfl, rfl⟩ := hz h0
        have Hc : Hid (CompIs s ⟨#[]⟩ er) := .inr (.inr ⟨hs', pd, rows, pss, pl, hf, ho, .inl ⟨h0, rfl⟩⟩)
        have hne : (er == 0) = false := by simpa using h0
        clear hb hf ho hz hok
        go_wp2_with fail
        go_ret2
        exact ⟨_, er, rfl, unhide Hc, (unhide Hb).alloc hsz _⟩

end Go.Proofs.YtdchbenfccofpaaGreatDoor
namespace Go.Proofs.YtdchbenfccofpaaGreatDoor
open Go.RowKit Db

/-- A step, and what it wrote is told. -/
def rstep (t : KS) (x : KAct) : KS := ⟨(kstep t x).s, (kstep t x).u, []⟩
def rrun (t : KS) (xs : List KAct) : KS := xs.foldl rstep t
theorem rrun_step {t : KS} {xs : List KAct} {j : Nat} {x : KAct} (h : xs[j]? = some x) : rrun t (xs.take (j + 1)) = rstep (rrun t (xs.take j)) x := by
  unfold rrun
  rw [List.take_add_one, h]
  simp
theorem rrun_ws (t : KS) (h : t.ws = []) (xs : List KAct) : (rrun t xs).ws = [] := by
  unfold rrun
  induction xs generalizing t with
  | nil => exact h
  | cons x r ih => exact ih (rstep t x) rfl
theorem Rec.lens {w : World} {B q : Nat} {s : Bk} (h : Rec w B q s) : ∃ g1 cap1 a2 cap2 vc, w.cell? ⟨q, 0, none⟩ = some (.slice (some ⟨g1, 0, none⟩) s.acs.length cap1) ∧ w.cell? ⟨q, 2, none⟩ = some (.slice a2 s.txs.length cap2) ∧ w.cell? ⟨q, 1, none⟩ = some vc ∧ s.acs.length ≤ 16 ∧ s.txs.length ≤ 64 := by
  obtain ⟨vp, vc, vt, tv, h⟩ := h
  obtain ⟨g1, cap1, rfl, _, _⟩ := ownsRow_some h.par h.good.one
  obtain ⟨a2, cap2, rfl⟩ := ownsRow_form h.txs.own
  have hl : tv.length = s.txs.length := by rw [← h.jr, List.length_map]
  have c0 := h.blk.cell 0
  have c1 := h.blk.cell 1
  have c2 := h.blk.cell 2
  simp only [List.getElem?_toArray, List.getElem?_cons_zero, List.getElem?_cons_succ] at c0 c1 c2
  rw [hl] at c2
  exact ⟨g1, cap1, a2, cap2, vc, c0, c2, c1, h.good.few, h.good.posts⟩

set_option maxRecDepth 100000 in
set_option maxHeartbeats 8000000 in
theorem refused_walk (v : Value) (xs : List KAct) (t : ByteArray) (w : World) (h : KActsAt w w.heap.size v xs) (hlen : xs.length ≤ 9223372036854775800) (hm : t.size ≤ maxLen) (ht : Tab w) :
    Calls Tryz.prog 11 #[v, .string t] w fun e w' => e = .returned (.bool true) ∧ Below w.heap.size w w' := by
  obtain ⟨ao, cap, rfl⟩ : ∃ ao cap, v = .slice ao xs.length cap := by obtain ⟨⟨ao, cap, rfl, _⟩, _⟩ := h; exact ⟨ao, cap, rfl⟩
  have H := hide h
  have Ht := hide ht
  clear h ht
  go_enter Tryz.func11, Tryz.ntmps11
  go_wp2_with fail
  refine (ready_any _ (unhide Ht)).mono ?_
  rintro e w1 ⟨q, p, rfl, h1, hb1⟩
  have H1 := hide h1
  have Hb1 := hide hb1
  clear h1 hb1
  go_wp2_with fail
  refine (dayWrites_any w.heap.size p rdy.u rdy.ws rdy.s w1 (unhide H1).led).mono ?_
  rintro e w2 ⟨⟨ao2, cap2, rfl, k1⟩, k2, k3⟩
  have hsz1 := (unhide Hb1).size
  have H2 : Hid (KP w2 w.heap.size q p ⟨rdy.s, rdy.u, []⟩) := ⟨(unhide H1).rec'.frB k3, k2⟩
  have Hb2 : Hid (Below w.heap.size w w2) := (unhide Hb1).trans (k3.below hsz1)
  clear k1 k2 k3 H1
  go_wp2_with fail
  go_loopg [7, 8] xs.length (fun m vo i wr => ∃ j : Nat, j ≤ xs.length ∧ m = xs.length - j ∧ i = .int .i64 j ∧ vo = .bool true ∧ Hid (KP wr w.heap.size q p (rrun ⟨rdy.s, rdy.u, []⟩ (xs.take j))) ∧ Hid (Below w.heap.size w wr))
  case atStart => exact ⟨0, by omega, rfl, rfl, rfl, unhide H2, unhide Hb2⟩
  case round =>
    obtain ⟨j, hj, rfl, rfl, rfl, HP, Hb⟩ := hrel
    by_cases hlt : j < xs.length
    · obtain ⟨x, hx⟩ : ∃ x, xs[j]? = some x := ⟨xs[j], List.getElem?_eq_getElem hlt⟩
      have hat := (unhide H).below (unhide Hb)
      have Hst := hide (rrun_step (t := ⟨rdy.s, rdy.u, []⟩) hx)
      have hok := hat.oks x (List.mem_of_getElem? hx)
      have Hmem := hide (List.mem_of_getElem? hx)
      obtain ⟨⟨ao', cap', e1, hr⟩, _⟩ := hat
      simp only [Value.slice.injEq, true_and] at e1
      obtain ⟨rfl, rfl⟩ := e1
      have hr2 := hr.resolve_left (by rintro rfl; simp at hx)
      obtain ⟨b, off, rfl, hbl, hc⟩ := hr2
      obtain ⟨d0, d1, d2, d3⟩ := hc j x hx
      have hjj : (j : Int) < (xs.length : Int) := by omega
      have hsz := (unhide Hb).size
      have hws := rrun_ws ⟨rdy.s, rdy.u, []⟩ rfl (xs.take j)
      obtain ⟨⟨s, u, ws⟩, ht⟩ : ∃ t, rrun ⟨rdy.s, rdy.u, []⟩ (xs.take j) = t := ⟨_, rfl⟩
      rw [ht] at HP Hst hws
      simp only at hws
      subst hws
      obtain ⟨kd, xa, xb, xao, xcap, ls⟩ := x
      simp only at d0 d1 d2 d3 hok
      have Hlk : Hid (∀ w', Below w.heap.size wr w' → LinesAt w' (.slice xao ls.length xcap) ls) := fun w' hf => hok.at'.belowK hf hok.lo
      have HT : Hid (∀ w', Below w.heap.size w w' → Tab w') := fun w' hf => (unhide Ht).below hf
      have Hc := hide (fun (wx : World) (hx : Below wr.heap.size wr wx) => calledW_any w.heap.size p u [] s kd xa xb xao xcap ls wx ((unhide HP).led.kept hx) (unhide Hlk wx (hx.mono hsz)) hok.few)
      have hgood := (unhide HP).rec'.good
      have hmore := clE_more hgood kd xa xb ls
      have Hno := hide (fun h => clE_no (s := s) (kd := kd) (a := xa) (b := xb) (ls := ls) h)
      have Hye := hide (fun h => clY_err hgood (kd := kd) (a := xa) (b := xb) (ls := ls) h)
      have Hy := hide (fun (wx : World) (h : Rec wx w.heap.size q s) (hl : LinesAt wx (.slice xao ls.length xcap) ls) (he : (clE s kd xa xb ls).2.1 = 0) => yes_any w.heap.size q s kd xa xb xao xcap ls wx h hl he)
      have Hst2 : Hid (rrun ⟨rdy.s, rdy.u, []⟩ (xs.take (j + 1)) = ⟨(clE s kd xa xb ls).2.2, dkU (clY s kd xa xb ls) u, []⟩) := unhide Hst
      have hwl := dkW_len (clY s kd xa xb ls) u (clX kd xa xb ls)
      obtain ⟨ws', hws'⟩ : ∃ ws', dkW (clY s kd xa xb ls) u (clX kd xa xb ls) [] = ws' := ⟨_, rfl⟩
      obtain ⟨u', hu'⟩ : ∃ u', dkU (clY s kd xa xb ls) u = u' := ⟨_, rfl⟩
      obtain ⟨⟨n, er, s'⟩, hcl⟩ : ∃ r, clE s kd xa xb ls = r := ⟨_, rfl⟩
      obtain ⟨y, hy⟩ : ∃ y, clY s kd xa xb ls = y := ⟨_, rfl⟩
      rw [hws', hu', hcl] at Hc
      rw [hcl] at Hno Hy
      rw [hcl, hy] at hmore Hye
      rw [hws', hy] at hwl
      rw [hu', hcl] at Hst2
      simp only at Hc Hno Hy hmore Hye hwl Hst2
      have hlens := (unhide HP).rec'.lens
      simp only at hlens
      obtain ⟨g1, cap1, a2, cap2', vc, c0, c2, c1, hf1, hf2⟩ := hlens
      have Hmore := hide hmore
      have Hwl := hide hwl
      clear hr hc hx hok ht hgood Hst hcl hy hu' hws' hmore hwl
      go_upto_region 8 with fail
      go_quiet (fail)
      have HP1 := hide ((unhide HP).kept ((Below.refl _ wr).drewN nq))
      have Hb1' := hide ((unhide Hb).drewN nq)
      go_wp2_with fail
      refine (recAccounts_any w.heap.size q s _ (by exact (unhide HP1).rec') (by exact unhide HT _ (unhide Hb1'))).mono ?_
      rintro e w3 ⟨u1, rfl, hu1, hb3⟩
      have HW3 : Hid (Below wr.heap.size wr w3) := ⟨hb3.os, hb3.tape, hb3.output, hb3.size, hb3.block⟩
      have HP3 := hide ((unhide HP).kept (unhide HW3))
      have Hb3 := hide ((unhide Hb).trans ((unhide HW3).mono hsz))
      have Hu1 := hide hu1
      have e0 : w3.cell? ⟨b, off + j * 4, none⟩ = some (.int .i64 kd) := by rw [(unhide HW3).cell (p := ⟨b, off + j * 4, none⟩) (show b < _ by omega)]; exact d0
      have e1 : w3.cell? ⟨b, off + j * 4 + 1, none⟩ = some (.int .i64 xa) := by rw [(unhide HW3).cell (p := ⟨b, off + j * 4 + 1, none⟩) (show b < _ by omega)]; exact d1
      have e2 : w3.cell? ⟨b, off + j * 4 + 2, none⟩ = some (.int .i64 xb) := by rw [(unhide HW3).cell (p := ⟨b, off + j * 4 + 2, none⟩) (show b < _ by omega)]; exact d2
      have e3 : w3.cell? ⟨b, off + j * 4 + 3, none⟩ = some (.slice xao ls.length xcap) := by rw [(unhide HW3).cell (p := ⟨b, off + j * 4 + 3, none⟩) (show b < _ by omega)]; exact d3
      have Hcc := hide (unhide Hc w3 (unhide HW3))
      clear hb3 hu1 d0 d1 d2 d3 c0 c1 c2 HP1 Hb1' HP Hc
      go_wp2_with fail
      refine (unhide Hcc).mono ?_
      rintro e w4 ⟨rfl, k1, k2⟩
      have hsz3 := (unhide Hb3).size
      have Hb4 : Hid (Below w.heap.size w w4) := (unhide Hb3).trans (k2.below hsz3)
      have Hbb4 : Hid (Below w.heap.size wr w4) := ((unhide HW3).mono hsz).trans (k2.below hsz3)
      have HR4 := hide ((unhide HP3).rec'.frP k2)
      have HL4 := hide k1
      have hsz4 := (unhide Hb4).size
      have f0 : w4.cell? ⟨b, off + j * 4, none⟩ = some (.int .i64 kd) := by rw [(k2.below hsz3).cell (p := ⟨b, off + j * 4, none⟩) (show b < _ by omega)]; exact e0
      have f1 : w4.cell? ⟨b, off + j * 4 + 1, none⟩ = some (.int .i64 xa) := by rw [(k2.below hsz3).cell (p := ⟨b, off + j * 4 + 1, none⟩) (show b < _ by omega)]; exact e1
      have f2 : w4.cell? ⟨b, off + j * 4 + 2, none⟩ = some (.int .i64 xb) := by rw [(k2.below hsz3).cell (p := ⟨b, off + j * 4 + 2, none⟩) (show b < _ by omega)]; exact e2
      have f3 : w4.cell? ⟨b, off + j * 4 + 3, none⟩ = some (.slice xao ls.length xcap) := by rw [(k2.below hsz3).cell (p := ⟨b, off + j * 4 + 3, none⟩) (show b < _ by omega)]; exact e3
      clear k1 k2 e0 e1 e2 e3 Hcc HP3 HW3 Hb3
      by_cases her : er = 0
      · subst her
        go_wp2_with fail
        refine (dayWrites_any w.heap.size p u' ws' s' w4 (unhide HL4)).mono ?_
        rintro e w5 ⟨⟨ao5, cap5, rfl, _⟩, k2, k3⟩
        have HR5 := hide ((unhide HR4).frB k3)
        have HL5 := hide k2
        have Hb5 : Hid (Below w.heap.size w w5) := (unhide Hb4).trans (k3.below hsz4)
        have hsz5 := (unhide Hb5).size
        have g0 : w5.cell? ⟨b, off + j * 4, none⟩ = some (.int .i64 kd) := by rw [(k3.below hsz4).cell (p := ⟨b, off + j * 4, none⟩) (show b < _ by omega)]; exact f0
        have g1' : w5.cell? ⟨b, off + j * 4 + 1, none⟩ = some (.int .i64 xa) := by rw [(k3.below hsz4).cell (p := ⟨b, off + j * 4 + 1, none⟩) (show b < _ by omega)]; exact f1
        have g2' : w5.cell? ⟨b, off + j * 4 + 2, none⟩ = some (.int .i64 xb) := by rw [(k3.below hsz4).cell (p := ⟨b, off + j * 4 + 2, none⟩) (show b < _ by omega)]; exact f2
        have g3' : w5.cell? ⟨b, off + j * 4 + 3, none⟩ = some (.slice xao ls.length xcap) := by rw [(k3.below hsz4).cell (p := ⟨b, off + j * 4 + 3, none⟩) (show b < _ by omega)]; exact f3
        have Hyy := hide (unhide Hy w5 (unhide HR5) (unhide Hlk w5 ((unhide Hbb4).trans (k3.below hsz4))) (by trivial))
        clear k2 k3 f0 f1 f2 f3 HR4 HL4 HR5 Hy
        go_wp2_with fail
        refine (unhide Hyy).mono ?_
        rintro e w6 ⟨rfl, j1, j2⟩
        have HP6 : Hid (KP w6 w.heap.size q p ⟨s', u', []⟩) := ⟨j1, (unhide HL5).frK j2⟩
        have Hb6 : Hid (Below w.heap.size w w6) := (unhide Hb5).trans (j2.below hsz5)
        have hsz6 := (unhide Hb6).size
        clear j1 j2 g0 g1' g2' g3' HL5 Hyy
        go_wp2_with fail
        refine (dayReport_any w.heap.size p s' t w6 (unhide HP6).led.led hm (unhide HT _ (unhide Hb6))).mono ?_
        rintro e w7 ⟨ru, rer, rfl, _, hb7⟩
        have HP7 := hide ((unhide HP6).kept hb7)
        have Hb7 := hide ((unhide Hb6).then' hsz6 hb7)
        have hsz7 := (unhide Hb7).size
        clear hb7 HP6
        go_wp2_with fail
        refine (dayCheck_any t w7 hm).mono ?_
        rintro e w8 ⟨cer, cpl, rfl, _, hb8⟩
        have HP8 := hide ((unhide HP7).kept hb8)
        have Hb8 := hide ((unhide Hb7).then' hsz7 hb8)
        have hsz8 := (unhide Hb8).size
        clear hb8 HP7
        go_wp2_with fail
        refine (dayShow_any t w8 hm (unhide HT _ (unhide Hb8))).mono ?_
        rintro e w9 ⟨su, ser, rfl, _, hb9⟩
        have HP9 := hide ((unhide HP8).kept hb9)
        have Hb9 := hide ((unhide Hb8).then' hsz8 hb9)
        have hsz9 := (unhide Hb9).size
        clear hb9 HP8
        go_wp2_with fail
        refine (dayCompile_any t w9 hm (unhide HT _ (unhide Hb9))).mono ?_
        rintro e w10 ⟨cu, cer2, rfl, _, hb10⟩
        have HP10 := hide ((unhide HP9).kept hb10)
        have Hb10 := hide ((unhide Hb9).then' hsz9 hb10)
        have hsz10 := (unhide Hb10).size
        clear hb10 HP9
        go_wp2_with fail
        refine (quiet_any w.heap.size q p u' [] s' w10 (unhide HP10).rec' (unhide HP10).led (fun w' hf => unhide HT w' ((unhide Hb10).trans (hf.below hsz10)))).mono ?_
        rintro e w11 ⟨rfl, k1, k2, k3⟩
        have HP11 : Hid (KP w11 w.heap.size q p ⟨s', u', []⟩) := ⟨k1, k2⟩
        have Hb11 : Hid (Below w.heap.size w w11) := (unhide Hb10).trans (k3.below hsz10)
        have hsz11 := (unhide Hb11).size
        clear k1 k2 k3 HP10
        simp only [List.length_nil, decide_true]
        go_wp2_with fail
        refine (recAccounts_any w.heap.size q s' w11 (unhide HP11).rec' (unhide HT _ (unhide Hb11))).mono ?_
        rintro e w12 ⟨u2, rfl, hu2, hb12⟩
        have HP12 := hide ((unhide HP11).kept hb12)
        have Hb12 := hide ((unhide Hb11).then' hsz11 hb12)
        have hsz12 := (unhide Hb12).size
        have HPF : Hid (KP w12 w.heap.size q p (rrun ⟨rdy.s, rdy.u, []⟩ (xs.take (j + 1)))) := by show KP _ _ _ _ _; rw [unhide Hst2]; exact unhide HP12
        have hlens := (unhide HP12).rec'.lens
        simp only at hlens
        obtain ⟨h1, cp1, b2, cp2, vd, c0, c2, c1, hg1, hg2⟩ := hlens
        clear hb12 HP11 Hno Hye
        have hmore := unhide Hmore
        have hwl := unhide Hwl
        clear Hmore Hwl
        rcases hmore with ⟨rfl, hm1⟩ | ⟨rfl, hm1, hm2⟩ | ⟨rfl, rfl⟩
        · have hw2 : ws'.length = 2 := by simpa using hwl
          have q1 : ((s.acs.length : Int) + (s.txs.length : Int) < (s'.acs.length : Int) + (s'.txs.length : Int)) := by omega
          have q2 : decide ((s.acs.length : Int) + (s.txs.length : Int) < (s'.acs.length : Int) + (s'.txs.length : Int)) = true := decide_eq_true q1
          have q3 : decide (s.acs.length + s.txs.length < s'.acs.length + s'.txs.length) = true := decide_eq_true hm1
          clear hwl hu2
          go_upto_region 25 with fail
          go_quiet (fail)
          go_wp2_with fail
          go_roundg (xs.length - (j + 1))
          case measure => omega
          case rel => exact ⟨j + 1, by omega, rfl, by go_num, rfl, (unhide HPF).kept ((Below.refl _ _).drewN _), (unhide Hb12).drewN _⟩
        · have hw2 : ws'.length = 2 := by simpa using hwl
          have q1 : ¬ ((s.acs.length : Int) + (s.txs.length : Int) < (s'.acs.length : Int) + (s'.txs.length : Int)) := by omega
          have q2 : decide ((s.acs.length : Int) + (s.txs.length : Int) < (s'.acs.length : Int) + (s'.txs.length : Int)) = false := decide_eq_false q1
          have q3 : decide (s.acs.length + s.txs.length < s'.acs.length + s'.txs.length) = false := decide_eq_false (by omega)
          have q4 : ¬ u2 = u1 := fun e => hm2 (by rw [← hu2, e]; exact unhide Hu1)
          have q5 : (u2.toList == u1.toList) = false := by
            rw [beq_eq_false_iff_ne, ByteArray.toList_eq, ByteArray.toList_eq]
            exact fun e => q4 (L_inj e)
          clear hwl hu2 hm1 hm2
          go_upto_region 25 with fail
          go_quiet (fail)
          go_wp2_with fail
          go_roundg (xs.length - (j + 1))
          case measure => omega
          case rel => exact ⟨j + 1, by omega, rfl, by go_num, rfl, (unhide HPF).kept ((Below.refl _ _).drewN _), (unhide Hb12).drewN _⟩
        · have hw2 : ws'.length = 0 := by simpa using hwl
          have q3 : decide (s'.acs.length + s'.txs.length < s'.acs.length + s'.txs.length) = false := decide_eq_false (by omega)
          obtain rfl : u2 = u1 := L_inj (by rw [hu2, unhide Hu1])
          clear hwl hu2
          go_upto_region 25 with fail
          go_quiet (fail)
          go_wp2_with fail
          go_roundg (xs.length - (j + 1))
          case measure => omega
          case rel => exact ⟨j + 1, by omega, rfl, by go_num, rfl, (unhide HPF).kept ((Below.refl _ _).drewN _), (unhide Hb12).drewN _⟩
      · have hne : (er != 0) = true := by simpa using her
        obtain ⟨rfl, rfl⟩ := unhide Hno her
        obtain rfl := unhide Hye her
        have hw0 : ws'.length = 0 := by simpa using unhide Hwl
        obtain rfl := List.length_eq_zero_iff.1 hw0
        clear f0 f1 f2 f3 Hmore Hwl Hy Hno Hye hw0
        go_wp2_with fail
        refine (quiet_any w.heap.size q p u' [] s' w4 (unhide HR4) (unhide HL4) (fun w' hf => unhide HT w' ((unhide Hb4).trans (hf.below hsz4)))).mono ?_
        rintro e w5 ⟨rfl, k1, k2, k3⟩
        have HP5 : Hid (KP w5 w.heap.size q p ⟨s', u', []⟩) := ⟨k1, k2⟩
        have Hb5 : Hid (Below w.heap.size w w5) := (unhide Hb4).trans (k3.below hsz4)
        clear k1 k2 k3 HR4 HL4
        simp only [List.length_nil, decide_true]
        go_wp2_with fail
        refine (dayReport_any w.heap.size p s' t w5 (unhide HP5).led.led hm (unhide HT _ (unhide Hb5))).mono ?_
        rintro e w6 ⟨ru, rer, rfl, _, hb6⟩
        have HP6 := hide ((unhide HP5).kept hb6)
        have hsz5 := (unhide Hb5).size
        have Hb6 := hide ((unhide Hb5).then' hsz5 hb6)
        clear hb6 HP5
        go_wp2_with fail
        refine (dayWrites_any w.heap.size p u' [] s' w6 (unhide HP6).led).mono ?_
        rintro e w7 ⟨⟨ao7, cap7, rfl, _⟩, k2, k3⟩
        have hsz6 := (unhide Hb6).size
        have HP7 : Hid (KP w7 w.heap.size q p (rrun ⟨rdy.s, rdy.u, []⟩ (xs.take (j + 1)))) := by show KP _ _ _ _ _; rw [unhide Hst2]; exact ⟨(unhide HP6).rec'.frB k3, k2⟩
        have Hb7 : Hid (Below w.heap.size w w7) := (unhide Hb6).trans (k3.below hsz6)
        clear k2 k3 HP6
        go_wp2_with fail
        go_roundg (xs.length - (j + 1))
        case measure => omega
        case rel => exact ⟨j + 1, by omega, rfl, by go_num, rfl, unhide HP7, unhide Hb7⟩
    · obtain rfl : j = xs.length := by omega
      go_wp2_with fail
      go_ret
      exact ⟨rfl, unhide Hb⟩

end Go.Proofs.YtdchbenfccofpaaGreatDoor
