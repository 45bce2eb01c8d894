/- Reports: the program's sheet: the cell of an operand. Walks of the check: rowKind. Reports: the program's sheet: the cell of a row. Codes: a code by its form. -/
import Derived.Test.YtfancgphkcjgmaaGreatDoorU16
import Derived.Test.YtfancgphkcjgmaaGreatDoorU08
import Derived.Test.YtfancgphkcjgmaaGreatDoorU02
namespace Go.Proofs.YtfancgphkcjgmaaGreatDoor
open Go.RowKit Db

theorem old_ne' {c : Int} (h : oldB c = true) (b : Int) (hb : oldB b = false) : (c == b) = false := old_ne h b hb
/-- What the program gives for an operand, at its sign. -/
theorem opv_sel {b : Bk} {pd : List (List UInt8 × List UInt8)} {cells : List (List Cl)} {k : Nat} {s n : Int} (hs : selB s = true) :
    opv (gE b pd cells k) (s, n) = ((if s == 33 then (aloneM b n ((pdv pd).getD k (0, 0)).1 ((pdv pd).getD k (0, 0)).2).1 else belS s (belowM b n ((pdv pd).getD k (0, 0)).1 ((pdv pd).getD k (0, 0)).2)), 0) := by
  have n48 := sel_ne hs 48 rfl
  have n36 := sel_ne hs 36 rfl
  have n60 := sel_ne hs 60 rfl
  unfold opv gE opE belS aloneM belowM
  simp only [n48, n36, n60, Bool.false_eq_true, if_false]
  have hin33 : inA b 33 n = fun a => a == n := by funext a; rfl
  by_cases h33 : s = 33
  · subst h33
    rw [hin33]; rfl
  · have e33 : (s == 33) = false := by simpa using h33
    have hin : inA b s n = wth b.acs n 16 := by funext a; unfold inA; rw [e33]; rfl
    rw [hin, e33]
    cases (s == 35) <;> rfl

set_option maxRecDepth 100000 in
set_option maxHeartbeats 2000000 in
theorem sOperand_any (q k : Nat) (b : Bk) (pd : List (List UInt8 × List UInt8)) (cells : List (List Cl)) (w : World) (s n : Int) (ho : opdB s = true) (h : Sht' w q b pd cells) (hk : k < pd.length) (hin : inR n = true) (hn : oldB s = true → 0 ≤ n ∧ n.toNat < cells.length) :
    Calls Tryz.prog 183 #[.pointer (some ⟨q, 0, none⟩), .agg #[.int .u8 s, .int .i64 n], .int .i64 (k : Int)] w fun e w' => e = .returned (gV (opv (gE b pd cells k) (s, n))) ∧ ClOk (opv (gE b pd cells k) (s, n)) ∧ Below w.heap.size w w' := by
  have hgood := h.good
  have hok : ∀ row ∈ cells, ∀ c ∈ row, ClOk c := by obtain ⟨_, _, _, _, h⟩ := h; exact h.ok
  obtain ⟨hk4, hc8⟩ : pd.length ≤ 4 ∧ cells.length ≤ 8 := by obtain ⟨_, _, _, _, h⟩ := h; exact h.few
  obtain ⟨W, hW, B1, B2, hbW, hWs⟩ : ∃ W, (w.alloc (.cells #[.int .u8 s, .int .i64 n] 191)).alloc (.cells #[.int .i64 0, .int .i64 0] 223) = W ∧ Blk W w.heap.size #[.int .u8 s, .int .i64 n] 191 ∧ Blk W (w.heap.size + 1) #[.int .i64 0, .int .i64 0] 223 ∧ Below w.heap.size w W ∧ W.heap.size = w.heap.size + 2 := by
    refine ⟨_, rfl, (Blk.new _ _ _).alloc _, ?_, ((Below.refl _ _).alloc (Nat.le_refl _) _).alloc (by simp) _, by simp⟩
    have := Blk.new (w.alloc (.cells #[.int .u8 s, .int .i64 n] 191)) #[.int .i64 0, .int .i64 0] 223
    simpa using this
  obtain ⟨p0, p1, _, _, lp⟩ := two_cells B1
  have HB2 := hide B2
  have HbW := hide hbW
  have HS := hide (h.kept hbW)
  have hcase : oldB s = true ∨ selB s = true ∨ s = 48 := by
    unfold opdB at ho
    simp only [Bool.or_eq_true, beq_iff_eq] at ho
    rcases ho with (ho | ho) | ho
    · exact .inr (.inr ho)
    · exact .inr (.inl ho)
    · exact .inl ho
  clear B1 B2 hbW h
  rcases hcase with hold | hsel | rfl
  · obtain ⟨hn0, hnc⟩ := hn hold
    obtain ⟨m, rfl⟩ : ∃ m : Nat, n = m := ⟨n.toNat, by omega⟩
    rw [Int.toNat_natCast] at hnc
    have hcc : s = 36 ∨ s = 60 := by simp [oldB] at hold; exact hold
    clear hn ho hold hn0
    rcases hcc with rfl | rfl
    · have e1 : opv (gE b pd cells k) (36, (m : Int)) = (cells.getD m []).getD k (0, 0) := rfl
      rw [e1]
      have Hok := hide (cell_ok hok m k)
      have Hat := hide (at_cell q m k b pd cells W (unhide HS) hnc hk)
      obtain ⟨c, hc⟩ : ∃ c, (cells.getD m []).getD k (0, 0) = c := ⟨_, rfl⟩
      rw [hc] at Hok Hat ⊢
      obtain ⟨c1, c2⟩ := c
      unfold gV at Hat ⊢
      simp only at Hat ⊢
      obtain ⟨z, hz⟩ : ∃ z, gst c2 = z := ⟨_, rfl⟩
      rw [hz] at Hat ⊢
      clear hc hz e1
      go_enter Tryz.func183, Tryz.ntmps183
      go_wp2_with fail
      try rw [hW]
      refine (unhide Hat).mono ?_
      rintro e w1 ⟨rfl, hb⟩
      obtain ⟨r0, r1, z0, z1, lr⟩ := two_cells ((unhide HB2).kept hb)
      have Hb1 := hide ((unhide HbW).then' (by omega) hb)
      clear hb
      go_wp2_with fail
      refine bodyPost_ret (v := .agg #[.int .i64 z, .int .i64 c1]) (by simp [results, Tryz.results183, go_sem, r0, r1]) rfl ⟨rfl, unhide Hok, ?_⟩
      exact ((unhide Hb1).setCell (by simp) _).setCell (by simp) _
    · cases k with
      | zero =>
        have e1 : opv (gE b pd cells 0) (60, (m : Int)) = (0, 0) := rfl
        rw [e1]
        have Hat := hide (at_first q m b pd cells W (unhide HS) hnc hk)
        unfold gV at Hat ⊢
        rw [gst_z0] at Hat ⊢
        simp only at Hat ⊢
        clear e1
        go_enter Tryz.func183, Tryz.ntmps183
        go_wp2_with fail
        try rw [hW]
        refine (unhide Hat).mono ?_
        rintro e w1 ⟨rfl, hb⟩
        obtain ⟨r0, r1, z0, z1, lr⟩ := two_cells ((unhide HB2).kept hb)
        have Hb1 := hide ((unhide HbW).then' (by omega) hb)
        clear hb
        go_wp2_with fail
        refine bodyPost_ret (v := .agg #[.int .i64 0, .int .i64 0]) (by simp [results, Tryz.results183, go_sem, r0, r1]) rfl ⟨rfl, .inl ⟨rfl, rfl⟩, ?_⟩
        exact ((unhide Hb1).setCell (by simp) _).setCell (by simp) _
      | succ k =>
        have e1 : opv (gE b pd cells (k + 1)) (60, (m : Int)) = (cells.getD m []).getD k (0, 0) := rfl
        rw [e1]
        have Hok := hide (cell_ok hok m k)
        have Hat := hide (at_cell q m k b pd cells W (unhide HS) hnc (by omega))
        obtain ⟨c, hc⟩ : ∃ c, (cells.getD m []).getD k (0, 0) = c := ⟨_, rfl⟩
        rw [hc] at Hok Hat ⊢
        obtain ⟨c1, c2⟩ := c
        unfold gV at Hat ⊢
        simp only at Hat ⊢
        obtain ⟨z, hz⟩ : ∃ z, gst c2 = z := ⟨_, rfl⟩
        rw [hz] at Hat ⊢
        have hk5 : k ≤ 4 := by omega
        have hkc : ((k + 1 : Nat) : Int) = (k : Int) + 1 := by omega
        clear hc hz e1
        go_enter Tryz.func183, Tryz.ntmps183
        go_wp2_with fail
        try rw [hW]
        refine (unhide Hat).mono ?_
        rintro e w1 ⟨rfl, hb⟩
        obtain ⟨r0, r1, z0, z1, lr⟩ := two_cells ((unhide HB2).kept hb)
        have Hb1 := hide ((unhide HbW).then' (by omega) hb)
        clear hb
        go_wp2_with fail
        refine bodyPost_ret (v := .agg #[.int .i64 z, .int .i64 c1]) (by simp [results, Tryz.results183, go_sem, r0, r1]) rfl ⟨rfl, unhide Hok, ?_⟩
        exact ((unhide Hb1).setCell (by simp) _).setCell (by simp) _
  · rw [opv_sel hsel]
    have Hok : Hid (ClOk ((if s == 33 then (aloneM b n ((pdv pd).getD k (0, 0)).1 ((pdv pd).getD k (0, 0)).2).1 else belS s (belowM b n ((pdv pd).getD k (0, 0)).1 ((pdv pd).getD k (0, 0)).2)), 0)) := by
      refine .inl ⟨rfl, ?_⟩
      simp only
      split
      · exact (tkT_in hgood _ _ _).1
      · unfold belS
        split
        · exact (tkT_in hgood _ _ _).2
        · exact (tkT_in hgood _ _ _).1
    have Hmv : Hid (Calls Tryz.prog 201 #[.pointer (some ⟨q, 0, none⟩), .agg #[.int .u8 s, .int .i64 n], .int .i64 (k : Int)] W fun e w' => e = .returned (.agg #[.int .i64 0, .int .i64 (if s == 33 then (aloneM b n ((pdv pd).getD k (0, 0)).1 ((pdv pd).getD k (0, 0)).2).1 else belS s (belowM b n ((pdv pd).getD k (0, 0)).1 ((pdv pd).getD k (0, 0)).2))]) ∧ Below W.heap.size W w') := by
      by_cases h33 : s = 33
      · subst h33
        exact sMove_alone q k n b pd cells W (unhide HS) hk
      · have e33 : (s == 33) = false := by simpa using h33
        rw [e33]
        exact sMove_below q k s n e33 b pd cells W (unhide HS) hk
    obtain ⟨r, hr⟩ : ∃ r, (if s == 33 then (aloneM b n ((pdv pd).getD k (0, 0)).1 ((pdv pd).getD k (0, 0)).2).1 else belS s (belowM b n ((pdv pd).getD k (0, 0)).1 ((pdv pd).getD k (0, 0)).2)) = r := ⟨_, rfl⟩
    rw [hr] at Hok Hmv ⊢
    unfold gV
    rw [gst_z0]
    simp only
    have hcc : s = 64 ∨ s = 33 ∨ s = 35 := by simp [selB] at hsel; omega
    clear hr hn ho hsel
    rcases hcc with rfl | rfl | rfl
    all_goals
      go_enter Tryz.func183, Tryz.ntmps183
      go_wp2_with fail
      try rw [hW]
      refine (unhide Hmv).mono ?_
      rintro e w1 ⟨rfl, hb⟩
      obtain ⟨r0, r1, z0, z1, lr⟩ := two_cells ((unhide HB2).kept hb)
      have Hb1 := hide ((unhide HbW).then' (by omega) hb)
      clear hb
      go_wp2_with fail
      refine bodyPost_ret (v := .agg #[.int .i64 0, .int .i64 r]) (by simp [results, Tryz.results183, go_sem, r0, r1]) rfl ⟨rfl, unhide Hok, ?_⟩
      exact ((unhide Hb1).setCell (by simp) _).setCell (by simp) _
  · have e1 : opv (gE b pd cells k) (48, n) = (n, 0) := rfl
    rw [e1]
    unfold gV
    rw [gst_z0]
    simp only
    have Hok : Hid (ClOk (n, 0)) := .inl ⟨rfl, hin⟩
    clear e1 hn ho hin
    go_enter Tryz.func183, Tryz.ntmps183
    go_wp2_with fail
    try rw [hW]
    refine (of_any n _).mono ?_
    rintro e w1 ⟨rfl, hb⟩
    obtain ⟨r0, r1, z0, z1, lr⟩ := two_cells ((unhide HB2).kept hb)
    have Hb1 := hide ((unhide HbW).then' (by omega) hb)
    clear hb
    go_wp2_with fail
    refine bodyPost_ret (v := .agg #[.int .i64 0, .int .i64 n]) (by simp [results, Tryz.results183, go_sem, r0, r1]) rfl ⟨rfl, unhide Hok, ?_⟩
    exact ((unhide Hb1).setCell (by simp) _).setCell (by simp) _

end Go.Proofs.YtfancgphkcjgmaaGreatDoor
namespace Go.Proofs.YtfancgphkcjgmaaGreatDoor
open Go.RowKit Db

theorem info_kind : (Tryz.prog.info? 193).map (fun i => (i.zero, i.size, i.bytes)) = some (some (.int .i64 0), 1, 8) := by kernel_rfl

/-- The upper two of a pile give way to one. -/
theorem own_pop2 {w : World} {B g cap : Nat} {e : TypeId} {q : List Int} {x y : Int} (h : w.ownsRow B e 1 (.slice (some ⟨g, 0, none⟩) (q.length + 2) cap) (q.length + 2) ((q ++ [x, y]).map (.int .i64))) (k : Int) :
    (w.setCell ⟨g, q.length, none⟩ (.int .i64 k)).ownsRow B e 1 (.slice (some ⟨g, 0, none⟩) (q.length + 1) cap) (q.length + 1) ((q ++ [k]).map (.int .i64)) := by
  obtain ⟨_, h2⟩ := h
  rcases h2 with ⟨h0, _⟩ | ⟨g', cap', cur, hv, hg, hh, hn, hcap, hsz, htake⟩
  · cases h0
  · cases hv
    refine ⟨by simp, .inr ⟨g, cap, cur.setIfInBounds q.length (.int .i64 k), rfl, hg, ?_, by omega, hcap, by simpa using hsz, ?_⟩⟩
    · exact Blk.set hh q.length (.int .i64 k)
    · rw [Array.toList_setIfInBounds]
      have h1 : (cur.toList.take ((q.length + 2) * 1)).take q.length = q.map (.int .i64) := by
        rw [htake]; simp
      rw [List.take_take, show min q.length ((q.length + 2) * 1) = q.length by omega] at h1
      rw [show (q.length + 1) * 1 = q.length + 1 by omega, List.take_succ_eq_append_getElem (by simp; omega)]
      rw [List.take_set_of_le (by omega), h1]
      simp

/-- Where the loop over the parts stands. -/
structure KLoop (w wr : World) (rows : List Int) (ps : List Pt) (j : Nat) (q : List Int) (vq : Value) : Prop where
  bit : ∀ x ∈ q, x = 0 ∨ x = 1
  dp : dpt (ps.drop j) q.length = some 1
  ev : kEval rows (ps.drop j) (q.reverse.map toR) = kEval rows ps []
  own : wr.ownsRow w.heap.size 193 1 vq q.length (q.map (.int .i64))
  bel : Below w.heap.size w wr

theorem drop_cons {ps : List Pt} {j : Nat} {p : Pt} (h : ps[j]? = some p) : ps.drop j = p :: ps.drop (j + 1) := by
  obtain ⟨hi, rfl⟩ := List.getElem?_eq_some_iff.1 h
  exact List.drop_eq_getElem_cons hi
theorem snoc2 (q : List Int) (h : 2 ≤ q.length) : ∃ r x y, q = r ++ [x, y] := by
  cases hq : q.reverse with
  | nil => simp at hq; subst hq; simp at h
  | cons y t =>
    cases t with
    | nil =>
      have := congrArg List.length hq
      simp at this
      omega
    | cons x t =>
      refine ⟨t.reverse, x, y, ?_⟩
      have := congrArg List.reverse hq
      simpa using this

theorem KLoop.opnd {w wr w' : World} {rows : List Int} {ps : List Pt} {j : Nat} {q : List Int} {vq vq' : Value} {p : Pt} (h : KLoop w wr rows ps j q vq) (hp : ps[j]? = some p) (ho : opdB p.1 = true) {k : Int} (hk : k = 0 ∨ k = 1) (hl : leafK rows p = toR k)
    (hown : w'.ownsRow w.heap.size 193 1 vq' (q.length + 1) (q.map (.int .i64) ++ [.int .i64 k])) (hb : Below w.heap.size w w') : KLoop w w' rows ps (j + 1) (q ++ [k]) vq' := by
  have hd := drop_cons hp
  refine ⟨?_, ?_, ?_, by simpa using hown, hb⟩
  · intro x hx
    simp at hx
    rcases hx with hx | rfl
    · exact h.bit x hx
    · exact hk
  · have := h.dp
    rw [hd] at this
    simp only [dpt, ho, if_true] at this
    simpa using this
  · have := h.ev
    rw [hd] at this
    simp only [kEval, ho, if_true, hl] at this
    rw [← this]
    simp
theorem KLoop.neg {w wr w' : World} {rows : List Int} {ps : List Pt} {j : Nat} {q : List Int} {vq : Value} {p : Pt} (h : KLoop w wr rows ps j q vq) (hp : ps[j]? = some p) (ho : opdB p.1 = false) (h126 : p.1 = 126)
    (hown : w'.ownsRow w.heap.size 193 1 vq q.length (q.map (.int .i64))) (hb : Below w.heap.size w w') : KLoop w w' rows ps (j + 1) q vq := by
  have hd := drop_cons hp
  have e1 : (p.1 == 126) = true := by simp [h126]
  refine ⟨h.bit, ?_, ?_, hown, hb⟩
  · have := h.dp
    rw [hd] at this
    simp only [dpt, ho, e1, if_true, Bool.false_eq_true, if_false] at this
    split at this
    · exact this
    · cases this
  · have := h.ev
    rw [hd] at this
    simp only [kEval, ho, e1, if_true, Bool.false_eq_true, if_false] at this
    exact this
/-- At an operation there are two on the pile. -/
theorem KLoop.two {w wr : World} {rows : List Int} {ps : List Pt} {j : Nat} {q : List Int} {vq : Value} {p : Pt} (h : KLoop w wr rows ps j q vq) (hp : ps[j]? = some p) (ho : opdB p.1 = false) (h126 : ¬ p.1 = 126) : opB p.1 = true ∧ 2 ≤ q.length := by
  have hd := drop_cons hp
  have e1 : (p.1 == 126) = false := by simpa using h126
  have := h.dp
  rw [hd] at this
  simp only [dpt, ho, e1, Bool.false_eq_true, if_false] at this
  split at this
  · rename_i hh; simpa using hh
  · cases this
theorem KLoop.join {w wr w' : World} {rows : List Int} {ps : List Pt} {j : Nat} {q : List Int} {x y : Int} {vq vq' : Value} {p : Pt} (h : KLoop w wr rows ps j (q ++ [x, y]) vq) (hp : ps[j]? = some p) (ho : opB p.1 = true) (hok : (jk p.1 x y).2 = true)
    (hown : w'.ownsRow w.heap.size 193 1 vq' (q.length + 1) ((q ++ [(jk p.1 x y).1]).map (.int .i64))) (hb : Below w.heap.size w w') : KLoop w w' rows ps (j + 1) (q ++ [(jk p.1 x y).1]) vq' := by
  have hd := drop_cons hp
  have ho2 := opd_op ho
  have hj := jk_join p.1 x y ho (h.bit x (by simp)) (h.bit y (by simp))
  rw [hok, if_pos rfl] at hj
  refine ⟨?_, ?_, ?_, by simpa using hown, hb⟩
  · intro z hz
    simp at hz
    rcases hz with hz | rfl
    · exact h.bit z (by simp [hz])
    · exact hj.2
  · have := h.dp
    rw [hd] at this
    simp [dpt, ho2.1, ho2.2, ho] at this
    simpa using this
  · have := h.ev
    rw [hd] at this
    simp [kEval, ho2.1, ho2.2] at this
    rw [← this, hj.1]
    simp
theorem KLoop.bad {w wr : World} {rows : List Int} {ps : List Pt} {j : Nat} {q : List Int} {x y : Int} {vq : Value} {p : Pt} (h : KLoop w wr rows ps j (q ++ [x, y]) vq) (hp : ps[j]? = some p) (ho : opB p.1 = true) (hok : (jk p.1 x y).2 = false) (hk : ∃ k, kEval rows ps [] = [k]) : kindP rows ps = 0 := by
  have hd := drop_cons hp
  have ho2 := opd_op ho
  have hj := jk_join p.1 x y ho (h.bit x (by simp)) (h.bit y (by simp))
  rw [hok, if_neg (by simp)] at hj
  obtain ⟨k, hk⟩ := hk
  have := h.ev
  rw [hd] at this
  simp [kEval, ho2.1, ho2.2, hj.1] at this
  have h0 := zero_stays rows (ps.drop (j + 1)) (0 :: (q.map toR).reverse) (by simp)
  rw [← List.map_reverse] at h0
  simp only [List.map_reverse] at h0 this
  rw [this, hk] at h0
  simp at h0
  unfold kindP
  rw [hk, ← h0]; rfl
theorem KLoop.done {w wr : World} {rows : List Int} {ps : List Pt} {j : Nat} {q : List Int} {vq : Value} (h : KLoop w wr rows ps j q vq) (hj : ps.length ≤ j) : ∃ x, q = [x] ∧ (x = 0 ∨ x = 1) ∧ kindP rows ps = toR x := by
  have hd := List.drop_eq_nil_of_le hj
  have h1 := h.dp
  rw [hd] at h1
  simp [dpt] at h1
  obtain ⟨x, rfl⟩ := List.length_eq_one_iff.1 h1
  refine ⟨x, rfl, h.bit x (by simp), ?_⟩
  have := h.ev
  rw [hd] at this
  unfold kindP
  rw [← this]; rfl

set_option maxRecDepth 100000 in
set_option maxHeartbeats 4000000 in
theorem rowKind_any (vp v : Value) (ps : List Pt) (ks : List Int) (B : Nat) (w : World) (hp : w.ownsRow B 191 2 vp ps.length (cellsP ps)) (hown : w.ownsRow B 193 1 v ks.length (ks.map (.int .i64)))
    (hks : ∀ x ∈ ks, x = 0 ∨ x = 1) (hn : ∀ p ∈ ps, oldB p.1 = true → 0 ≤ p.2 ∧ p.2.toNat < ks.length) (hdp : dpt ps 0 = some 1) (hk : ∃ k, kEval (ks.map toR) ps [] = [k]) (hpl : ps.length ≤ 200) :
    Calls Tryz.prog 124 #[.agg #[vp], v] w fun e w' => ∃ kp ok, e = .returned (.tuple #[.int .i64 kp, .bool ok]) ∧ (kp = 0 ∨ kp = 1) ∧ kindP (ks.map toR) ps = (bif ok then toR kp else 0) ∧ Below w.heap.size w w' := by
  obtain ⟨ii, hi, hz0, hz1, hz2⟩ := info_parts info_kind
  obtain ⟨aop, capp, rfl⟩ := ownsRow_form hp
  obtain ⟨aok, capk, rfl⟩ := ownsRow_form hown
  have Hp := hide hp
  have Ho := hide hown
  have Hks := hide hks
  have Hn := hide hn
  have Hk := hide hk
  have Hst : Hid (KLoop w (w.alloc (.cells #[.slice aop ps.length capp] 155)) (ks.map toR) ps 0 [] (.slice none 0 0)) := ⟨by simp, hdp, rfl, World.ownsRow_nil _ _ _ _, (Below.refl _ _).alloc (Nat.le_refl _) _⟩
  clear hp hown hks hn hk hdp
  go_enter Tryz.func124, Tryz.ntmps124
  go_wp2_with fail
  go_loopw [6, 15] (fun vq i wr => ∃ j : Nat, ∃ q : List Int, j ≤ ps.length ∧ i = .int .i64 j ∧ q.length ≤ j ∧ w.heap.size < wr.heap.size ∧ Hid (KLoop w wr (ks.map toR) ps j q vq)) (fun _ i _ => ps.length - (intOf i).toNat)
  case atStart => exact ⟨0, [], by omega, rfl, by simp, by simp, unhide Hst⟩
  case round =>
    obtain ⟨j, q, hj, rfl, hq, hsz, Hl⟩ := hrel
    obtain ⟨aoq, capq, hvq⟩ := ownsRow_form (unhide Hl).own
    subst hvq
    by_cases hlt : j < ps.length
    · obtain ⟨pj, hpj⟩ : ∃ pj, ps[j]? = some pj := ⟨ps[j], List.getElem?_eq_getElem hlt⟩
      obtain ⟨g2, _, e1, hg2, hg2'⟩ := ownsRow_some (unhide Hp) (by omega)
      simp only [Value.slice.injEq, true_and] at e1
      obtain ⟨rfl, rfl⟩ := e1
      have hc := pair_get (fun p : Pt => Value.int .u8 p.1) (fun p => Value.int .i64 p.2) ps j pj hpj
      have hro := ownsRow_below (unhide Hp) (unhide Hl).bel
      have d1 := ownsRow_cell hro (j := j * 2) hc.1
      have d2 := ownsRow_cell hro (j := j * 2 + 1) hc.2
      have Hnj := hide (unhide Hn pj (List.mem_of_getElem? hpj))
      have Hpj := hide hpj
      clear hro hc hpj
      obtain ⟨s, n⟩ := pj
      simp only at d1 d2 Hnj
      go_wp2_with fail
      refine (isOperand_any s n _).mono ?_
      rintro e w3 ⟨rfl, hb3⟩
      have f0 := hb3.cell (p := ⟨wr.heap.size, 0, none⟩) (by simp)
      have f1 := hb3.cell (p := ⟨wr.heap.size, 1, none⟩) (by simp)
      have hb3s := hb3.size
      simp at f0 f1 hb3s
      have Hb3 : Hid (Below w.heap.size w w3) := ((unhide Hl).bel.alloc (by omega) _).then' (by simp; omega) hb3
      have Hq3 := hide (ownsRow_below ((unhide Hl).own.alloc _) hb3)
      clear hb3
      cases ho : opdB s with
      | true =>
        have Hoo := hide ho
        go_wp2_with fail
        refine (operandKind_any s n _ ks B _ (by exact ownsRow_below (unhide Ho) (unhide Hb3)) (unhide Hks) (unhide Hnj)).mono ?_
        rintro e w4 ⟨kk, rfl, hkk, hleaf, hb4⟩
        have Hb4 := hide ((unhide Hb3).then' (by omega) hb4)
        have Hq4 := hide (ownsRow_below (unhide Hq3) hb4)
        have hb4s := hb4.size
        have Hleaf := hide hleaf
        have Hkk := hide hkk
        clear hb4 hleaf hkk
        go_wp2_with (first
          | (at_builtin; refine wpList_append_own _ rfl (.tmp 23) (.tmp 27) 192 rfl w.heap.size 193 ii (.int .i64 0) 1 8 Tryz.underlying192 hi hz0 hz1 hz2 rfl (by decide) (.slice aoq q.length capq) q.length _ rfl ((unhide Hq4).alloc _) ⟨w4.heap.size, 0, none⟩ 1 1 [.int .i64 kk] rfl rfl (cell_one_new _ _ _) (fun x hx => by simp at hx; subst hx; rfl) (by unfold maxLen; omega) (by omega) (by simp; omega) ?_; intro vq' w5 hown5 hgr5 _; obtain ⟨gf, cf, rfl, hgf, hgf'⟩ := ownsRow_some hown5 (Nat.succ_pos _)))
        have hb5 : Below w.heap.size w w5 := ((unhide Hb4).alloc (by omega) _).grown hgr5 (by simp; omega) (fun g hg => ((unhide Hq4).lt g hg).1)
        have Hl5 := hide ((unhide Hl).opnd (unhide Hpj) (unhide Hoo) (unhide Hkk) (unhide Hleaf) hown5 hb5)
        have hsz5 := hgr5.size
        simp at hsz5
        clear hown5 hgr5 hb5
        go_wp2_with fail
        go_roundw
        case rel => exact ⟨j + 1, q ++ [kk], by omega, by go_num, by simp; omega, by omega, unhide Hl5⟩
        case measure => simp [intOf]; omega
      | false =>
        have Hoo := hide ho
        by_cases h126 : s = 126
        · subst h126
          have Hl5 := hide ((unhide Hl).neg (unhide Hpj) (unhide Hoo) rfl (unhide Hq3) (unhide Hb3))
          go_wp2_with fail
          go_roundw
          case rel => exact ⟨j + 1, q, by omega, by go_num, by omega, by omega, unhide Hl5⟩
          case measure => simp [intOf]; omega
        · have n126 : (s != 126) = true := by simp [bne, h126]
          have h2 := (unhide Hl).two (unhide Hpj) (unhide Hoo) h126
          obtain ⟨qq, x, y, rfl⟩ := snoc2 q h2.2
          have Hop := hide h2.1
          clear h126 h2
          have hlen : (qq ++ [x, y]).length = qq.length + 2 := by simp
          simp only [hlen] at Hq3 hq ⊢
          obtain ⟨gp, _, e1, hgp, hgp'⟩ := ownsRow_some (unhide Hq3) (by omega)
          simp only [Value.slice.injEq, true_and] at e1
          obtain ⟨rfl, rfl⟩ := e1
          have p1 := ownsRow_cell (unhide Hq3) (j := qq.length) (u := .int .i64 x) (by simp)
          have p2 := ownsRow_cell (unhide Hq3) (j := qq.length + 1) (u := .int .i64 y) (by simp)
          have hx01 := (unhide Hl).bit x (by simp)
          have hy01 := (unhide Hl).bit y (by simp)
          have Hx01 := hide hx01
          have Hy01 := hide hy01
          have hz := ownsRow_frozen (unhide Hq3) qq.length
          clear hlen hx01 hy01
          go_wp2_with fail
          go_quiet ((go_at_call 167; exact Calls.quiet_of_same (joinKinds_any s x y _ (unhide Hop) (unhide Hx01) (unhide Hy01))))
          cases hok : (jk s x y).2 with
          | false =>
            have Hbad := hide ((unhide Hl).bad (unhide Hpj) (unhide Hop) hok (unhide Hk))
            go_wp2_with fail
            go_ret2
            exact ⟨0, false, rfl, .inl rfl, unhide Hbad, (unhide Hb3).drewN _⟩
          | true =>
            obtain ⟨kk, hkk⟩ : ∃ kk, (jk s x y).1 = kk := ⟨_, rfl⟩
            rw [hkk]
            have Hown5 := fun nn => own_pop2 (w := w3.drewN nn) (unhide Hq3) kk
            have Hl5 : ∀ nn, KLoop w ((w3.drewN nn).setCell ⟨gp, qq.length, none⟩ (.int .i64 kk)) (ks.map toR) ps (j + 1) (qq ++ [kk]) (.slice (some ⟨gp, 0, none⟩) (qq.length + 1) capq) := by
              intro nn
              have := (unhide Hl).join (unhide Hpj) (unhide Hop) hok (by rw [hkk]; exact Hown5 nn) (((unhide Hb3).drewN nn).setCell hgp _)
              rw [hkk] at this
              exact this
            have HL := hide Hl5
            have e2 : (qq.length : Int) + 2 - 1 = ((qq.length + 1 : Nat) : Int) := by omega
            have hcap : qq.length + 1 ≤ capq := by
              rcases (unhide Hq3).2 with ⟨h0, _⟩ | ⟨g', cap', cur, hv, _, _, hn, _⟩
              · cases h0
              · cases hv; omega
            rw [e2]
            clear hok hkk Hown5 Hl5 e2
            go_wp2_with fail
            go_roundw
            case rel =>
              refine ⟨j + 1, qq ++ [kk], by omega, by go_num, by simp; omega, by simp [World.setCell, World.drewN]; omega, ?_⟩
              exact unhide HL _
            case measure => simp [intOf]; omega
    · obtain ⟨x, rfl, hx, hkp⟩ := (unhide Hl).done (by omega)
      obtain ⟨g, _, e1, hg, hg'⟩ := ownsRow_some (unhide Hl).own (by simp)
      simp only [Value.slice.injEq, true_and] at e1
      obtain ⟨rfl, rfl⟩ := e1
      have c0 := ownsRow_cell (unhide Hl).own (j := 0) rfl
      have Hx := hide hx
      have Hkp := hide hkp
      clear hx hkp
      go_wp2_with fail
      go_ret2
      exact ⟨x, true, rfl, unhide Hx, unhide Hkp, (unhide Hl).bel⟩

end Go.Proofs.YtfancgphkcjgmaaGreatDoor
namespace Go.Proofs.YtfancgphkcjgmaaGreatDoor
open Go.RowKit Db

theorem info_gcell : (Tryz.prog.info? 223).map (fun i => (i.zero, i.size, i.bytes)) = some (some (.agg #[.int .i64 0, .int .i64 0]), 2, 16) := by kernel_rfl
/-- The uppermost of a pile is written over. -/
theorem own_lastG {w : World} {B g cap : Nat} {e : TypeId} {q : List Cl} {x : Cl} (h : w.ownsRow B e 2 (.slice (some ⟨g, 0, none⟩) (q.length + 1) cap) (q.length + 1) (cellsG (q ++ [x]))) (d : Cl) :
    ((w.setCell ⟨g, q.length * 2, none⟩ (.int .i64 (gst d.2))).setCell ⟨g, q.length * 2 + 1, none⟩ (.int .i64 d.1)).ownsRow B e 2 (.slice (some ⟨g, 0, none⟩) (q.length + 1) cap) (q.length + 1) (cellsG (q ++ [d])) := by
  obtain ⟨_, h2⟩ := h
  rcases h2 with ⟨h0, _⟩ | ⟨g', cap', cur, hv, hg, hh, hn, hcap, hsz, htake⟩
  · cases h0
  · cases hv
    refine ⟨by rw [cellsG_length]; simp, .inr ⟨g, cap, (cur.setIfInBounds (q.length * 2) (.int .i64 (gst d.2))).setIfInBounds (q.length * 2 + 1) (.int .i64 d.1), rfl, hg, ?_, hn, hcap, by simpa using hsz, ?_⟩⟩
    · exact Blk.set (Blk.set hh (q.length * 2) (.int .i64 (gst d.2))) (q.length * 2 + 1) (.int .i64 d.1)
    · rw [Array.toList_setIfInBounds, Array.toList_setIfInBounds]
      have h1 : (cur.toList.take ((q.length + 1) * 2)).take (q.length * 2) = cellsG q := by
        rw [htake, cellsG_append, List.take_append_of_le_length (by rw [cellsG_length]; omega), List.take_of_length_le (by rw [cellsG_length]; omega)]
      rw [List.take_take, show min (q.length * 2) ((q.length + 1) * 2) = q.length * 2 by omega] at h1
      have hl : q.length * 2 + 2 ≤ cur.toList.length := by
        have := congrArg List.length htake
        rw [cellsG_length] at this
        simp at this
        simp
        omega
      rw [show (q.length + 1) * 2 = q.length * 2 + 1 + 1 by omega, List.take_succ_eq_append_getElem (by simp at hl ⊢; omega), List.take_succ_eq_append_getElem (by simp at hl ⊢; omega)]
      rw [List.take_set_of_le (by omega), List.take_set_of_le (by omega), h1, cellsG_append]
      simp [cellsG]
/-- A pile gives up its uppermost. -/
theorem own_lessG {w : World} {B g cap : Nat} {e : TypeId} {q : List Cl} {x y : Cl} (h : w.ownsRow B e 2 (.slice (some ⟨g, 0, none⟩) (q.length + 2) cap) (q.length + 2) (cellsG (q ++ [x, y]))) :
    w.ownsRow B e 2 (.slice (some ⟨g, 0, none⟩) (q.length + 1) cap) (q.length + 1) (cellsG (q ++ [x])) := by
  obtain ⟨_, h2⟩ := h
  rcases h2 with ⟨h0, _⟩ | ⟨g', cap', cur, hv, hg, hh, hn, hcap, hsz, htake⟩
  · cases h0
  · cases hv
    refine ⟨by rw [cellsG_length]; simp, .inr ⟨g, cap, cur, rfl, hg, hh, by omega, hcap, hsz, ?_⟩⟩
    have h1 : (cur.toList.take ((q.length + 2) * 2)).take ((q.length + 1) * 2) = cellsG (q ++ [x]) := by
      rw [htake, show q ++ [x, y] = (q ++ [x]) ++ [y] by simp, cellsG_append (q ++ [x]), List.take_append_of_le_length (by rw [cellsG_length]; simp), List.take_of_length_le (by rw [cellsG_length]; simp)]
    rwa [List.take_take, show min ((q.length + 1) * 2) ((q.length + 2) * 2) = (q.length + 1) * 2 by omega] at h1
theorem snocG1 (q : List Cl) (h : 1 ≤ q.length) : ∃ r x, q = r ++ [x] := by
  cases hq : q.reverse with
  | nil => simp at hq; subst hq; simp at h
  | cons y t => exact ⟨t.reverse, y, by have := congrArg List.reverse hq; simpa using this⟩
theorem snocG2 (q : List Cl) (h : 2 ≤ q.length) : ∃ r x y, q = r ++ [x, y] := by
  obtain ⟨r, y, rfl⟩ := snocG1 q (by omega)
  simp at h
  obtain ⟨r, x, rfl⟩ := snocG1 r (by omega)
  exact ⟨r, x, y, by simp⟩
theorem fold_none (E : Pt → Cl) (ps : List Pt) : ps.foldl (vStep E) none = none := by
  induction ps with
  | nil => rfl
  | cons p t ih => exact ih

/-- Where the loop over the parts stands. -/
structure GLoop (w wr : World) (E : Pt → Cl) (ps : List Pt) (c : Cl) (j : Nat) (q : List Cl) (vq : Value) : Prop where
  ev : (ps.drop j).foldl (vStep E) (some q.reverse) = some [c]
  res : Blk wr (w.heap.size + 1) #[.int .i64 0, .int .i64 0] 223
  own : wr.ownsRow (w.heap.size + 2) 223 2 vq q.length (cellsG q)
  bel : Below w.heap.size w wr
  ok : ∀ c ∈ q, ClOk c
theorem GLoop.opnd {w wr w' : World} {E : Pt → Cl} {ps : List Pt} {c : Cl} {j : Nat} {q : List Cl} {vq vq' : Value} {p : Pt} (h : GLoop w wr E ps c j q vq) (hp : ps[j]? = some p) (ho : opdB p.1 = true) (hc : ClOk (opv E p))
    (hown : w'.ownsRow (w.heap.size + 2) 223 2 vq' (q.length + 1) (cellsG q ++ [.int .i64 (gst (opv E p).2), .int .i64 (opv E p).1])) (hb : Below w.heap.size w w') (hr : Blk w' (w.heap.size + 1) #[.int .i64 0, .int .i64 0] 223) : GLoop w w' E ps c (j + 1) (q ++ [opv E p]) vq' := by
  have hd := drop_cons hp
  refine ⟨?_, hr, by rw [cellsG_snoc]; simpa using hown, hb, ?_⟩
  · have := h.ev
    rw [hd, List.foldl_cons] at this
    simp only [vStep, ho, if_true] at this
    simpa using this
  · intro x hx
    simp at hx
    rcases hx with hx | rfl
    · exact h.ok x hx
    · exact hc
theorem GLoop.one {w wr : World} {E : Pt → Cl} {ps : List Pt} {c : Cl} {j : Nat} {q : List Cl} {vq : Value} {p : Pt} (h : GLoop w wr E ps c j q vq) (hp : ps[j]? = some p) (ho : opdB p.1 = false) (h126 : p.1 = 126) : 1 ≤ q.length := by
  have hd := drop_cons hp
  have e1 : (p.1 == 126) = true := by simp [h126]
  cases hq : q with
  | cons x t => simp
  | nil =>
    have := h.ev
    rw [hd, List.foldl_cons, hq] at this
    simp only [vStep, ho, e1, if_true, Bool.false_eq_true, if_false, List.reverse_nil] at this
    rw [fold_none] at this
    cases this
theorem GLoop.two {w wr : World} {E : Pt → Cl} {ps : List Pt} {c : Cl} {j : Nat} {q : List Cl} {vq : Value} {p : Pt} (h : GLoop w wr E ps c j q vq) (hp : ps[j]? = some p) (ho : opdB p.1 = false) (h126 : ¬ p.1 = 126) : 2 ≤ q.length := by
  have hd := drop_cons hp
  have e1 : (p.1 == 126) = false := by simpa using h126
  have := h.ev
  rw [hd, List.foldl_cons] at this
  simp only [vStep, ho, e1, Bool.false_eq_true, if_false] at this
  cases hq : q.reverse with
  | nil => rw [hq] at this; simp only at this; rw [fold_none] at this; cases this
  | cons y t =>
    cases ht : t with
    | nil => rw [hq, ht] at this; simp only at this; rw [fold_none] at this; cases this
    | cons x u =>
      have := congrArg List.length hq
      rw [ht] at this
      simp at this
      omega
theorem GLoop.neg {w wr w' : World} {E : Pt → Cl} {ps : List Pt} {c : Cl} {j : Nat} {q : List Cl} {x : Cl} {vq : Value} {p : Pt} (h : GLoop w wr E ps c j (q ++ [x]) vq) (hp : ps[j]? = some p) (ho : opdB p.1 = false) (h126 : p.1 = 126)
    (hown : w'.ownsRow (w.heap.size + 2) 223 2 vq (q.length + 1) (cellsG (q ++ [don 45 (0, 0) x]))) (hb : Below w.heap.size w w') (hr : Blk w' (w.heap.size + 1) #[.int .i64 0, .int .i64 0] 223) : GLoop w w' E ps c (j + 1) (q ++ [don 45 (0, 0) x]) vq := by
  have hd := drop_cons hp
  have e1 : (p.1 == 126) = true := by simp [h126]
  refine ⟨?_, hr, by simpa using hown, hb, ?_⟩
  · have := h.ev
    rw [hd, List.foldl_cons] at this
    simp only [vStep, ho, e1, if_true, Bool.false_eq_true, if_false, List.reverse_append, List.reverse_cons, List.reverse_nil, List.nil_append, List.cons_append] at this
    simpa using this
  · intro y hy
    simp at hy
    rcases hy with hy | rfl
    · exact h.ok y (by simp [hy])
    · exact don_ok (.inl ⟨rfl, rfl⟩) (h.ok x (by simp))
theorem GLoop.join {w wr w' : World} {E : Pt → Cl} {ps : List Pt} {c : Cl} {j : Nat} {q : List Cl} {x y : Cl} {vq vq' : Value} {p : Pt} (h : GLoop w wr E ps c j (q ++ [x, y]) vq) (hp : ps[j]? = some p) (ho : opdB p.1 = false) (h126 : ¬ p.1 = 126)
    (hown : w'.ownsRow (w.heap.size + 2) 223 2 vq' (q.length + 1) (cellsG (q ++ [don p.1 x y]))) (hb : Below w.heap.size w w') (hr : Blk w' (w.heap.size + 1) #[.int .i64 0, .int .i64 0] 223) : GLoop w w' E ps c (j + 1) (q ++ [don p.1 x y]) vq' := by
  have hd := drop_cons hp
  have e1 : (p.1 == 126) = false := by simpa using h126
  refine ⟨?_, hr, by simpa using hown, hb, ?_⟩
  · have := h.ev
    rw [hd, List.foldl_cons] at this
    simp only [vStep, ho, e1, Bool.false_eq_true, if_false, List.reverse_append, List.reverse_cons, List.reverse_nil, List.nil_append, List.cons_append] at this
    simpa using this
  · intro z hz
    simp at hz
    rcases hz with hz | rfl
    · exact h.ok z (by simp [hz])
    · exact don_ok (h.ok x (by simp)) (h.ok y (by simp))
theorem GLoop.done {w wr : World} {E : Pt → Cl} {ps : List Pt} {c : Cl} {j : Nat} {q : List Cl} {vq : Value} (h : GLoop w wr E ps c j q vq) (hj : ps.length ≤ j) : q = [c] := by
  have := h.ev
  rw [List.drop_eq_nil_of_le hj] at this
  simp only [List.foldl_nil, Option.some.injEq] at this
  have h2 := congrArg List.reverse this
  simpa using h2

/-- A part that can be worked out, of n rows ahead. -/
def PtOk (n : Nat) (p : Pt) : Prop := inR p.2 = true ∧ (oldB p.1 = true → 0 ≤ p.2 ∧ p.2.toNat < n)

set_option maxRecDepth 100000 in
set_option maxHeartbeats 8000000 in
theorem sWork_any (q0 k : Nat) (b : Bk) (pd : List (List UInt8 × List UInt8)) (cells : List (List Cl)) (vp : Value) (ps : List Pt) (Bp : Nat) (c : Cl) (w : World) (h : Sht' w q0 b pd cells) (hp : w.ownsRow Bp 191 2 vp ps.length (cellsP ps)) (hpl : ps.length ≤ 200) (hk : k < pd.length)
    (hv : ValR (gE b pd cells k) ps c) (hn : ∀ p ∈ ps, PtOk cells.length p) :
    Calls Tryz.prog 160 #[.pointer (some ⟨q0, 0, none⟩), .agg #[vp], .int .i64 (k : Int)] w fun e w' => e = .returned (gV c) ∧ ClOk c ∧ Below w.heap.size w w' := by
  obtain ⟨ii, hi, hz0, hz1, hz2⟩ := info_parts info_gcell
  obtain ⟨aop, capp, rfl⟩ := ownsRow_form hp
  have HS := hide h
  have Hp := hide hp
  have Hn := hide hn
  obtain ⟨E, hE⟩ : ∃ E, gE b pd cells k = E := ⟨_, rfl⟩
  rw [hE] at hv
  have Hop : Hid (∀ (wx : World) (p : Pt), Below w.heap.size w wx → p ∈ ps → opdB p.1 = true → Calls Tryz.prog 183 #[.pointer (some ⟨q0, 0, none⟩), .agg #[.int .u8 p.1, .int .i64 p.2], .int .i64 (k : Int)] wx fun e w' => e = .returned (gV (opv E p)) ∧ ClOk (opv E p) ∧ Below wx.heap.size wx w') := by
    intro wx p hb hpm ho
    have := sOperand_any q0 k b pd cells wx p.1 p.2 ho (h.kept hb) hk (hn p hpm).1 (hn p hpm).2
    rw [hE] at this
    exact this
  have Hst : Hid (GLoop w ((w.alloc (.cells #[.slice aop ps.length capp] 155)).alloc (.cells #[.int .i64 0, .int .i64 0] 223)) E ps c 0 [] (.slice none 0 0)) := by
    refine ⟨hv [], ?_, World.ownsRow_nil _ _ _ _, ((Below.refl _ _).alloc (Nat.le_refl _) _).alloc (by simp) _, by simp⟩
    have := Blk.new (w.alloc (.cells #[.slice aop ps.length capp] 155)) #[.int .i64 0, .int .i64 0] 223
    simpa using this
  clear h hp hn hv hE
  go_enter Tryz.func160, Tryz.ntmps160
  go_wp2_with fail
  go_loopg [7, 16] ps.length (fun m vq i wr => ∃ j : Nat, ∃ q : List Cl, j ≤ ps.length ∧ m = ps.length - j ∧ i = .int .i64 j ∧ q.length ≤ j ∧ w.heap.size + 1 < wr.heap.size ∧ Hid (GLoop w wr E ps c j q vq))
  case atStart => exact ⟨0, [], by omega, rfl, rfl, by simp, by simp, unhide Hst⟩
  case round =>
    obtain ⟨j, q, hj, rfl, rfl, hq, hsz, Hl⟩ := hrel
    obtain ⟨aoq, capq, hvq⟩ := ownsRow_form (unhide Hl).own
    subst hvq
    by_cases hlt : j < ps.length
    · obtain ⟨pj, hpj⟩ : ∃ pj, ps[j]? = some pj := ⟨ps[j], List.getElem?_eq_getElem hlt⟩
      obtain ⟨g2, _, e1, hg2, hg2'⟩ := ownsRow_some (unhide Hp) (by omega)
      simp only [Value.slice.injEq, true_and] at e1
      obtain ⟨rfl, rfl⟩ := e1
      have hc := two_get (fun p : Pt => Value.int .u8 p.1) (fun p => Value.int .i64 p.2) ps j pj hpj
      have hro := ownsRow_below (unhide Hp) (unhide Hl).bel
      have d1 := ownsRow_cell hro (j := j * 2) hc.1
      have d2 := ownsRow_cell hro (j := j * 2 + 1) hc.2
      have Hmem := hide (List.mem_of_getElem? hpj)
      have Hpj := hide hpj
      clear hro hc hpj
      obtain ⟨s, n⟩ := pj
      simp only at d1 d2
      go_wp2_with fail
      refine (isOperand_any s n _).mono ?_
      rintro e w3 ⟨rfl, hb3⟩
      have f0 := hb3.cell (p := ⟨wr.heap.size, 0, none⟩) (by simp)
      have f1 := hb3.cell (p := ⟨wr.heap.size, 1, none⟩) (by simp)
      have hb3s := hb3.size
      simp at f0 f1 hb3s
      have Hb3 : Hid (Below w.heap.size w w3) := ((unhide Hl).bel.alloc (by omega) _).then' (by simp; omega) hb3
      have Hq3 := hide (ownsRow_below ((unhide Hl).own.alloc (.cells #[.int .u8 s, .int .i64 n] 191)) hb3)
      have HR3 := hide (((unhide Hl).res.alloc (.cells #[.int .u8 s, .int .i64 n] 191)).kept hb3)
      clear hb3
      cases ho : opdB s with
      | true =>
        have Hoo := hide ho
        have Hcall := hide (unhide Hop w3 (s, n) (unhide Hb3) (unhide Hmem) ho)
        have Hnew : Hid (∀ {w' : World} {vq' : Value}, ClOk (opv E (s, n)) → w'.ownsRow (w.heap.size + 2) 223 2 vq' (q.length + 1) (cellsG q ++ [.int .i64 (gst (opv E (s, n)).2), .int .i64 (opv E (s, n)).1]) → Below w.heap.size w w' → Blk w' (w.heap.size + 1) #[.int .i64 0, .int .i64 0] 223 → GLoop w w' E ps c (j + 1) (q ++ [opv E (s, n)]) vq') := fun h1 h2 h3 h4 => (unhide Hl).opnd (unhide Hpj) ho h1 h2 h3 h4
        obtain ⟨d, hd⟩ : ∃ d, opv E (s, n) = d := ⟨_, rfl⟩
        rw [hd] at Hcall Hnew
        obtain ⟨da, db⟩ := d
        unfold gV at Hcall
        simp only at Hcall Hnew
        obtain ⟨z, hz⟩ : ∃ z, gst db = z := ⟨_, rfl⟩
        rw [hz] at Hcall Hnew
        clear hd hz
        go_wp2_with fail
        refine (unhide Hcall).mono ?_
        rintro e w4 ⟨rfl, hok4, hb4⟩
        have Hok4 := hide hok4
        have Hb4 := hide ((unhide Hb3).then' (by omega) hb4)
        have Hq4 := hide (ownsRow_below (unhide Hq3) hb4)
        have HR4 := hide ((unhide HR3).kept hb4)
        have hb4s := hb4.size
        clear hb4 hok4 Hcall
        go_wp2_with (first
          | (at_builtin; refine wpList_append_own _ rfl (.tmp 28) (.tmp 30) 220 rfl (w.heap.size + 2) 223 ii (.agg #[.int .i64 0, .int .i64 0]) 2 16 Tryz.underlying220 hi hz0 hz1 hz2 rfl (by decide) (.slice aoq q.length capq) q.length _ rfl (((unhide Hq4).alloc _).alloc _) ⟨w4.heap.size + 1, 0, none⟩ 1 1 [.int .i64 z, .int .i64 da] rfl rfl (cell_two_new' _ _ (by simp) _ _ _) (fun x hx => by simp at hx; rcases hx with rfl | rfl <;> rfl) (by unfold maxLen; omega) (by omega) (by simp; omega) ?_; intro vq' w5 hown5 hgr5 _; obtain ⟨gf, cf, rfl, hgf, hgf'⟩ := ownsRow_some hown5 (Nat.succ_pos _)))
        have hb5 : Below w.heap.size w w5 := (((unhide Hb4).alloc (by omega) _).alloc (by simp; omega) _).grown hgr5 (by simp; omega) (fun g hg => by have := ((unhide Hq4).lt g hg).1; omega)
        have hr5 := (((unhide HR4).alloc (.cells #[.int .i64 z, .int .i64 da] 223)).alloc (.cells #[.int .i64 z, .int .i64 da] 223)).grown hgr5 (fun e => by have := ((unhide Hq4).lt _ e.symm).1; omega)
        have Hl5 := hide (unhide Hnew (unhide Hok4) hown5 hb5 hr5)
        have hsz5 := hgr5.size
        simp at hsz5
        clear hown5 hgr5 hb5 hr5
        go_wp2_with fail
        go_roundg (ps.length - (j + 1))
        case measure => omega
        case rel => exact ⟨j + 1, q ++ [(da, db)], by omega, rfl, by go_num, by simp; omega, by omega, unhide Hl5⟩
      | false =>
        have Hoo := hide ho
        by_cases h126 : s = 126
        · subst h126
          have h1 := (unhide Hl).one (unhide Hpj) (unhide Hoo) rfl
          obtain ⟨qq, x, rfl⟩ := snocG1 q h1
          obtain ⟨xa, xb⟩ := x
          have hlen : (qq ++ [(xa, xb)]).length = qq.length + 1 := by simp
          simp only [hlen] at Hq3 hq Hl ⊢
          obtain ⟨gp, _, e1, hgp, hgp'⟩ := ownsRow_some (unhide Hq3) (by omega)
          simp only [Value.slice.injEq, true_and] at e1
          obtain ⟨rfl, rfl⟩ := e1
          have Hcell : Hid (∀ wx : World, wx.ownsRow (w.heap.size + 2) 223 2 (.slice (some ⟨gp, 0, none⟩) (qq.length + 1) capq) (qq.length + 1) (cellsG (qq ++ [(xa, xb)])) → wx.cell? ⟨gp, qq.length * 2, none⟩ = some (.int .i64 (gst xb)) ∧ wx.cell? ⟨gp, qq.length * 2 + 1, none⟩ = some (.int .i64 xa)) := fun wx hw =>
            ⟨ownsRow_cell hw (j := qq.length * 2) (u := .int .i64 (gst xb)) (by rw [cellsG_append, List.getElem?_append_right (by rw [cellsG_length]; omega), cellsG_length]; simp [cellsG]), ownsRow_cell hw (j := qq.length * 2 + 1) (u := .int .i64 xa) (by rw [cellsG_append, List.getElem?_append_right (by rw [cellsG_length]; omega), cellsG_length]; simp [cellsG])⟩
          obtain ⟨p1, p2⟩ := unhide Hcell w3 (unhide Hq3)
          have Hopp := hide (fun wx : World => opp_any (xa, xb) wx ((unhide Hl).ok _ (by simp)))
          have Hnew : Hid (∀ {w' : World}, w'.ownsRow (w.heap.size + 2) 223 2 (.slice (some ⟨gp, 0, none⟩) (qq.length + 1) capq) (qq.length + 1) (cellsG (qq ++ [don 45 (0, 0) (xa, xb)])) → Below w.heap.size w w' → Blk w' (w.heap.size + 1) #[.int .i64 0, .int .i64 0] 223 → GLoop w w' E ps c (j + 1) (qq ++ [don 45 (0, 0) (xa, xb)]) (.slice (some ⟨gp, 0, none⟩) (qq.length + 1) capq)) := fun h2 h3 h4 => (unhide Hl).neg (unhide Hpj) (unhide Hoo) rfl h2 h3 h4
          obtain ⟨d, hd⟩ : ∃ d, don 45 (0, 0) (xa, xb) = d := ⟨_, rfl⟩
          rw [hd] at Hopp Hnew
          obtain ⟨da, db⟩ := d
          unfold gV at Hopp
          simp only at Hopp
          obtain ⟨z, hz⟩ : ∃ z, gst db = z := ⟨_, rfl⟩
          obtain ⟨zx, hzx⟩ : ∃ zx, gst xb = zx := ⟨_, rfl⟩
          rw [hz, hzx] at Hopp
          rw [hzx] at p1 Hcell
          have Hz := hide hz
          clear hlen h1 hd hz hzx
          go_wp2_with fail
          refine (unhide Hopp _).mono ?_
          rintro e w4 ⟨rfl, hb4⟩
          have Hq4 := hide (ownsRow_below (unhide Hq3) hb4)
          have Hb4 := hide ((unhide Hb3).then' (by omega) hb4)
          have HR4 := hide ((unhide HR3).kept hb4)
          have hb4s := hb4.size
          have z0 := ownsRow_frozen (unhide Hq4) (qq.length * 2)
          have z1 := ownsRow_frozen (unhide Hq4) (qq.length * 2 + 1)
          have hown5 := own_lastG (unhide Hq4) (da, db)
          simp only [unhide Hz] at hown5
          have Hl5 := hide (unhide Hnew hown5 (((unhide Hb4).setCell (by show w.heap.size ≤ gp; omega) _).setCell (by show w.heap.size ≤ gp; omega) _) (((unhide HR4).setOther _ _ (by show w.heap.size + 1 ≠ gp; omega)).setOther _ _ (by show w.heap.size + 1 ≠ gp; omega)))
          obtain ⟨r1, r2⟩ := unhide Hcell w4 (unhide Hq4)
          clear hb4 p1 p2 hown5 Hcell Hnew
          go_wp2_with fail
          go_roundg (ps.length - (j + 1))
          case measure => omega
          case rel => exact ⟨j + 1, qq ++ [(da, db)], by omega, rfl, by go_num, by simp; omega, by simp [World.setCell]; omega, unhide Hl5⟩
        · have n126 : (s == 126) = false := by simpa using h126
          have h2 := (unhide Hl).two (unhide Hpj) (unhide Hoo) h126
          obtain ⟨qq, x, y, rfl⟩ := snocG2 q h2
          obtain ⟨xa, xb⟩ := x
          obtain ⟨ya, yb⟩ := y
          have hlen : (qq ++ [(xa, xb), (ya, yb)]).length = qq.length + 2 := by simp
          simp only [hlen] at Hq3 hq Hl ⊢
          obtain ⟨gp, _, e1, hgp, hgp'⟩ := ownsRow_some (unhide Hq3) (by omega)
          simp only [Value.slice.injEq, true_and] at e1
          obtain ⟨rfl, rfl⟩ := e1
          have Hcell : Hid (∀ wx : World, wx.ownsRow (w.heap.size + 2) 223 2 (.slice (some ⟨gp, 0, none⟩) (qq.length + 2) capq) (qq.length + 2) (cellsG (qq ++ [(xa, xb), (ya, yb)])) → wx.cell? ⟨gp, qq.length * 2, none⟩ = some (.int .i64 (gst xb)) ∧ wx.cell? ⟨gp, qq.length * 2 + 1, none⟩ = some (.int .i64 xa) ∧ wx.cell? ⟨gp, (qq.length + 1) * 2, none⟩ = some (.int .i64 (gst yb)) ∧ wx.cell? ⟨gp, (qq.length + 1) * 2 + 1, none⟩ = some (.int .i64 ya)) := by
            intro wx hw
            have hcc : ∀ (k : Nat) (v : Value), [Value.int .i64 (gst xb), .int .i64 xa, .int .i64 (gst yb), .int .i64 ya][k]? = some v → (cellsG (qq ++ [(xa, xb), (ya, yb)]))[qq.length * 2 + k]? = some v := by
              intro k v hk
              rw [cellsG_append, List.getElem?_append_right (by rw [cellsG_length]; omega), cellsG_length, show qq.length * 2 + k - qq.length * 2 = k by omega]
              exact hk
            exact ⟨ownsRow_cell hw (j := qq.length * 2) (hcc 0 _ rfl), ownsRow_cell hw (j := qq.length * 2 + 1) (hcc 1 _ rfl), ownsRow_cell hw (j := (qq.length + 1) * 2) (by rw [show (qq.length + 1) * 2 = qq.length * 2 + 2 by omega]; exact hcc 2 _ rfl), ownsRow_cell hw (j := (qq.length + 1) * 2 + 1) (by rw [show (qq.length + 1) * 2 + 1 = qq.length * 2 + 3 by omega]; exact hcc 3 _ rfl)⟩
          have Hjn := hide (fun wx : World => join_any s (xa, xb) (ya, yb) wx ((unhide Hl).ok _ (by simp)) ((unhide Hl).ok _ (by simp)))
          have Hnew : Hid (∀ {w' : World}, w'.ownsRow (w.heap.size + 2) 223 2 (.slice (some ⟨gp, 0, none⟩) (qq.length + 1) capq) (qq.length + 1) (cellsG (qq ++ [don s (xa, xb) (ya, yb)])) → Below w.heap.size w w' → Blk w' (w.heap.size + 1) #[.int .i64 0, .int .i64 0] 223 → GLoop w w' E ps c (j + 1) (qq ++ [don s (xa, xb) (ya, yb)]) (.slice (some ⟨gp, 0, none⟩) (qq.length + 1) capq)) := fun h2 h3 h4 => (unhide Hl).join (unhide Hpj) (unhide Hoo) h126 h2 h3 h4
          obtain ⟨d, hd⟩ : ∃ d, don s (xa, xb) (ya, yb) = d := ⟨_, rfl⟩
          rw [hd] at Hjn Hnew
          obtain ⟨da, db⟩ := d
          unfold gV at Hjn
          simp only at Hjn
          obtain ⟨z, hz⟩ : ∃ z, gst db = z := ⟨_, rfl⟩
          obtain ⟨zx, hzx⟩ : ∃ zx, gst xb = zx := ⟨_, rfl⟩
          obtain ⟨zy, hzy⟩ : ∃ zy, gst yb = zy := ⟨_, rfl⟩
          rw [hz, hzx, hzy] at Hjn
          rw [hzx, hzy] at Hcell
          have Hz := hide hz
          obtain ⟨p1, p2, p3, p4⟩ := unhide Hcell w3 (unhide Hq3)
          have e2 : (qq.length : Int) + 2 - 1 = (qq.length : Int) + 1 := by omega
          have e3 : (qq.length : Int) + 2 - 2 = (qq.length : Int) := by omega
          have wq0 : IntKind.i64.wrap (qq.length : Int) = qq.length := by rw [IntKind.wrap_i64]; omega
          have wq1 : IntKind.i64.wrap ((qq.length : Int) + 1) = (qq.length : Int) + 1 := by rw [IntKind.wrap_i64]; omega
          have tq1 : ((qq.length : Int) + 1).toNat = qq.length + 1 := by omega
          have tq0 : (qq.length : Int).toNat = qq.length := by omega
          have lq1 : (0 : Int) ≤ (qq.length : Int) + 1 := by omega
          have lq0 : (0 : Int) ≤ (qq.length : Int) := by omega
          have lq3 : (qq.length : Int) < (qq.length : Int) + 2 := by omega
          have lq2 : (qq.length : Int) + 1 < (qq.length : Int) + 2 := by omega
          have hlt1 : wr.heap.size < w3.heap.size := by omega
          have hlt2 : gp < w3.heap.size := by omega
          have hne1 : w3.heap.size ≠ wr.heap.size := by omega
          have hne2 : w3.heap.size ≠ gp := by omega
          have hcap : qq.length + 1 ≤ capq := by
            rcases (unhide Hq3).2 with ⟨h0, _⟩ | ⟨g', cap', cur, hv, _, _, hn, _⟩
            · cases h0
            · cases hv; omega
          clear hlen h126 h2 hd hz hzx hzy
          go_upto_region 12 with fail
          have HCA := hide (fun (w4 : World) => cutQA (w3 := w3) (w4 := w4) (a := .int .i64 z) (b := .int .i64 da) (a0 := .int .i64 0) (b0 := .int .i64 0) (T := 223))
          have HCB := hide (fun (w4 : World) => cutQB (w3 := w3) (w4 := w4) (a := .int .i64 z) (b := .int .i64 da) (T := 223))
          go_cut [12] (fun vj wx => ∃ g : Nat, vj = .pointer (some ⟨g, 0, none⟩) ∧ CutQ w3 wx g (.int .i64 z) (.int .i64 da) 223)
          case first =>
            have hcall := unhide Hjn
            clear hq Hp Hn Hst Hl Hq3 Hb3 Hcell Hoo Hpj Hnew HR3 Hop HS Hmem d1 d2 Hjn
            go_region_held3 (fun w' => w'.cell? ⟨wr.heap.size, 0, none⟩ = some (.int .u8 s) ∧ w'.cell? ⟨gp, qq.length * 2, none⟩ = some (.int .i64 zx) ∧ w'.cell? ⟨gp, qq.length * 2 + 1, none⟩ = some (.int .i64 xa) ∧ w'.cell? ⟨gp, (qq.length + 1) * 2, none⟩ = some (.int .i64 zy) ∧ w'.cell? ⟨gp, (qq.length + 1) * 2 + 1, none⟩ = some (.int .i64 ya)) (first | go_keep | exact ⟨kept_cell' hb4 (by simp [*]), kept_cell' hb4 (by simp [*]), kept_cell' hb4 (by simp [*]), kept_cell' hb4 (by simp [*]), kept_cell' hb4 (by simp [*])⟩ | exact ⟨kept_al hb4 (by simp [*]), kept_al hb4 (by simp [*]), kept_al hb4 (by simp [*]), kept_al hb4 (by simp [*]), kept_al hb4 (by simp [*])⟩) (first | (go_at_call 185; refine (hcall _).mono ?_; rintro e w4 ⟨rfl, hb4⟩; have k0 := fun h => hb4.cell (p := ⟨w3.heap.size, 0, none⟩) h; have k1 := fun h => hb4.cell (p := ⟨w3.heap.size, 1, none⟩) h; have y0 := fun h => hb4.frozen (p := ⟨w3.heap.size, 0, none⟩) h; have y1 := fun h => hb4.frozen (p := ⟨w3.heap.size, 1, none⟩) h; simp at k0 k1 y0 y1))
            all_goals (try go_wp2_with fail)
            all_goals go_meet
            all_goals first
              | exact ⟨w3.heap.size, rfl, unhide HCA w4 hb4⟩
              | exact ⟨w4.heap.size, rfl, unhide HCB w4 hb4⟩
          case rest =>
            obtain ⟨g, rfl, hr⟩ := hcut
            have Hb5 := hide ((unhide Hb3).then' (by omega) hr.bel)
            have Hq5 := hide (ownsRow_below (unhide Hq3) hr.bel)
            have HR5 := hide ((unhide HR3).kept hr.bel)
            obtain ⟨m0, m1, _, _, lm⟩ := two_cells hr.blk
            have hszc := hr.bel.size
            have hown5 := own_lastG (own_lessG (unhide Hq5)) (da, db)
            simp only [unhide Hz] at hown5
            have Hl5 := hide (unhide Hnew hown5 (((unhide Hb5).setCell (by show w.heap.size ≤ gp; omega) _).setCell (by show w.heap.size ≤ gp; omega) _) (((unhide HR5).setOther _ _ (by show w.heap.size + 1 ≠ gp; omega)).setOther _ _ (by show w.heap.size + 1 ≠ gp; omega)))
            have z0 := ownsRow_frozen (unhide Hq5) (qq.length * 2)
            have z1 := ownsRow_frozen (unhide Hq5) (qq.length * 2 + 1)
            obtain ⟨r1, r2, r3, r4⟩ := unhide Hcell _ (unhide Hq5)
            clear hr hown5 p1 p2 p3 p4 f0 f1 Hcell Hnew
            go_wp2_with fail
            go_roundg (ps.length - (j + 1))
            case measure => omega
            case rel => exact ⟨j + 1, qq ++ [(da, db)], by omega, rfl, by go_num, by simp; omega, by simp [World.setCell]; omega, unhide Hl5⟩
    · obtain rfl := (unhide Hl).done (by omega)
      obtain ⟨g, _, e1, hg, hg'⟩ := ownsRow_some (unhide Hl).own (by simp)
      simp only [Value.slice.injEq, true_and] at e1
      obtain ⟨rfl, rfl⟩ := e1
      have c0 := ownsRow_cell (unhide Hl).own (j := 0) rfl
      have c1 := ownsRow_cell (unhide Hl).own (j := 1) rfl
      obtain ⟨r0, r1, z0, z1, lr⟩ := two_cells (unhide Hl).res
      have Hok := hide ((unhide Hl).ok c (by simp))
      obtain ⟨da, db⟩ := c
      simp only at c0 c1
      obtain ⟨z, hz⟩ : ∃ z, gst db = z := ⟨_, rfl⟩
      rw [hz] at c0
      have Hz := hide hz
      clear hz
      go_wp2_with fail
      refine bodyPost_ret (v := .agg #[.int .i64 z, .int .i64 da]) (by simp [results, Tryz.results160, go_sem, r0, r1]) rfl ⟨?_, unhide Hok, ?_⟩
      · unfold gV; rw [unhide Hz]
      · exact ((unhide Hl).bel.setCell (by simp) _).setCell (by simp) _

end Go.Proofs.YtfancgphkcjgmaaGreatDoor
namespace Db
open Go Go.Proofs.YtfancgphkcjgmaaGreatDoor
theorem jn_cons2 (c : UInt8) (x y : List UInt8) (r : List (List UInt8)) : jn c (x :: y :: r) = x ++ c :: jn c (y :: r) := by simp [jn]
theorem split_jn (c : UInt8) : ∀ (ws : List (List UInt8)), ws ≠ [] → (∀ w ∈ ws, ∀ x ∈ w, x ≠ c) → split (jn c ws) c = ws
  | [], h, _ => absurd rfl h
  | [x], _, h => by
    have : jn c [x] = x := by simp [jn]
    rw [this, split_one c x (h x (by simp))]
  | x :: y :: r, _, h => by
    rw [jn_cons2, split_cons c x _ (h x (by simp)), split_jn c (y :: r) (by simp) (fun w hw => h w (by simp [hw]))]
theorem itoa_bytes (n : Int) : ∀ x ∈ Lib.itoa n, digB x.toNat = true ∨ x = 45 := by
  by_cases hn : n < 0
  · obtain ⟨u, rfl⟩ : ∃ u : Nat, n = -(u : Int) := ⟨n.natAbs, by omega⟩
    rw [Lib.itoa_neg u (by omega)]
    intro x hx
    rcases List.mem_cons.1 hx with rfl | hx
    · exact .inr rfl
    · exact .inl ((dec_facts u).1 x hx)
  · obtain ⟨u, rfl⟩ : ∃ u : Nat, n = (u : Int) := ⟨n.toNat, by omega⟩
    rw [Lib.itoa_nonneg]
    exact fun x hx => .inl ((dec_facts u).1 x hx)
theorem itoa_no {n : Int} {x : UInt8} (h : x ∈ Lib.itoa n) : x ≠ 32 ∧ x ≠ 59 := by
  rcases itoa_bytes n x h with h | rfl
  · constructor <;> (rintro rfl; exact absurd h (by decide))
  · decide
theorem word_bytes {p : Pt} (h : PtS p) : ∀ x ∈ wordC p, x ≠ 32 ∧ x ≠ 59 := by
  obtain ⟨s, n⟩ := p
  intro x hx
  rcases sg_cases h.1 with hs | hs | ⟨h1, h2⟩
  · simp only at hs
    subst hs
    exact itoa_no hx
  · rw [wordC_opd hs] at hx
    rcases List.mem_cons.1 hx with rfl | hx
    · simp only at hs ⊢
      rcases hs with hs | hs
      · simp [selB] at hs; rcases hs with (rfl | rfl) | rfl <;> decide
      · simp [oldB] at hs; rcases hs with rfl | rfl <;> decide
    · exact itoa_no hx
  · rw [wordC_op h1] at hx
    simp only [List.mem_singleton] at hx
    subst hx
    simp only at h2 ⊢
    rcases h2 with h2 | rfl
    · simp [opB] at h2; rcases h2 with ((rfl | rfl) | rfl) | rfl <;> decide
    · decide
theorem jn_bytes {c : UInt8} {q : UInt8 → Prop} (hc : q c) : ∀ (ws : List (List UInt8)), (∀ w ∈ ws, ∀ x ∈ w, q x) → ∀ x ∈ jn c ws, q x
  | [], _ => by simp [jn]
  | [x], h => by have : jn c [x] = x := by simp [jn]
                 rw [this]; exact h x (by simp)
  | x :: y :: r, h => by
    rw [jn_cons2]
    intro z hz
    simp only [List.mem_append, List.mem_cons] at hz
    rcases hz with hz | rfl | hz
    · exact h x (by simp) z hz
    · exact hc
    · exact jn_bytes hc (y :: r) (fun w hw => h w (by simp [hw])) z hz
/-- The pile at each place of words that come to one cell. -/
theorem pile_at {E : Pt → Cl} {ps : List Pt} {c : Cl} (h : ps.foldl (vStep E) (some []) = some [c]) (i : Nat) : ∃ st, (ps.take i).foldl (vStep E) (some []) = some st := by
  rw [← List.take_append_drop i ps, List.foldl_append] at h
  cases hs : (ps.take i).foldl (vStep E) (some []) with
  | some st => exact ⟨st, rfl⟩
  | none => rw [hs, fold_none] at h; cases h
theorem pile_step {E : Pt → Cl} {ps : List Pt} {i : Nat} {p : Pt} (h : ps[i]? = some p) : (ps.take (i + 1)).foldl (vStep E) (some []) = vStep E ((ps.take i).foldl (vStep E) (some [])) p := by
  rw [List.take_add_one, h]; simp
/-- How many are on the pile behind a word. -/
theorem step_len {E : Pt → Cl} {st st' : List Cl} {p : Pt} (h : vStep E (some st) p = some st') :
    (opdB p.1 = true → st'.length = st.length + 1) ∧ (opdB p.1 = false → p.1 = 126 → 1 ≤ st.length ∧ st'.length = st.length) ∧ (opdB p.1 = false → ¬ p.1 = 126 → 2 ≤ st.length ∧ st'.length + 1 = st.length) := by
  refine ⟨fun ho => ?_, fun ho h6 => ?_, fun ho h6 => ?_⟩
  · simp [vStep, ho] at h; rw [← h]; simp
  · have e : (p.1 == 126) = true := by simp [h6]
    simp only [vStep, ho, e, if_true, Bool.false_eq_true, if_false] at h
    cases st with
    | nil => cases h
    | cons x t => simp at h; rw [← h]; simp
  · have e : (p.1 == 126) = false := by simpa using h6
    simp only [vStep, ho, e, Bool.false_eq_true, if_false] at h
    match st, h with
    | [], h => cases h
    | [x], h => cases h
    | y :: x :: t, h => simp at h; rw [← h]; simp
end Db
namespace Go.Proofs.YtfancgphkcjgmaaGreatDoor
open Go.RowKit Db

theorem split_words {code : ByteArray} {ps : List Pt} {us : List ByteArray} (hc : L code = jn 32 (ps.map wordC)) (hne : ps ≠ []) (hP : ∀ p ∈ ps, PtS p) (hus : us.map L = split (L code) 32) : us.map L = ps.map wordC := by
  rw [hus, hc]
  refine split_jn 32 _ (by simpa using hne) ?_
  intro w hw x hx
  obtain ⟨p, hp, rfl⟩ := List.mem_map.1 hw
  exact (word_bytes (hP p hp) x hx).1

set_option maxRecDepth 100000 in
set_option maxHeartbeats 4000000 in
theorem formed_any (code t : ByteArray) (row : Nat) (ps0 ps : List Pt) (n : Nat) (w : World) (E : Pt → Cl) (c : Cl) (hc : L code = jn 32 (ps.map wordC)) (hsz : code.size ≤ 40000) (hW : ∀ p ∈ ps, WOk row p) (hN : Nf ps.reverse) (hv : ps.foldl (vStep E) (some []) = some [c]) (hwf : Wf n (L t) ps0) (hts : t.size ≤ 200) (hle : ps.length ≤ ps0.length) (h200 : ps0.length ≤ 200) :
    Calls Tryz.prog 57 #[.string code, .string t, .int .i64 (row : Int)] w fun e w' => e = .returned (.bool true) ∧ Below w.heap.size w w' := by
  have hP : ∀ p ∈ ps, PtS p := fun p hp => (hW p hp).1
  have hne : ps ≠ [] := by rintro rfl; simp at hv
  have Hsw := hide (fun (us : List ByteArray) (h : us.map L = split (L code) 32) => split_words hc hne hP h)
  have HP := hide hP
  have HW := hide hW
  have HN := hide hN
  have Hv := hide hv
  have Hpa := hide (fun wx : World => parts_any n t ps0 wx hts hwf h200)
  have hpos : 1 ≤ ps.length := by cases ps with | nil => exact absurd rfl hne | cons a r => simp
  clear hc hW hN hv hwf hP hne
  go_enter Tryz.func57, Tryz.ntmps57
  go_wp2_with fail
  refine (split_any code 32 _ (by omega)).mono ?_
  rintro e w1 ⟨v, us, rfl, hus, hown, hb1⟩
  have HD : Hid (WdAt w1 w.heap.size v us ps) := ⟨hown, unhide Hsw us hus⟩
  have Hlen := hide (unhide HD).len
  have hul : us.length ≤ 200 := by have := unhide Hlen; omega
  have hul1 : 1 ≤ us.length := by have := unhide Hlen; omega
  obtain ⟨g, cap, rfl, hg, hg'⟩ := ownsRow_some hown hul1
  have Hb1 := hide hb1
  clear hus hown hb1 Hsw
  go_wp2_with fail
  go_loopg [8, 9] us.length (fun m pv i wr => ∃ j : Nat, ∃ st : List Cl, j ≤ us.length ∧ m = us.length - j ∧ i = .int .i64 j ∧ pv = .int .i64 (st.length : Int) ∧ st.length ≤ j ∧ Hid ((ps.take j).foldl (vStep E) (some []) = some st) ∧ wr = w1)
  case atStart => exact ⟨0, [], by omega, rfl, rfl, rfl, by simp, rfl, rfl⟩
  case round =>
    obtain ⟨j, st, hj, rfl, rfl, rfl, hst, Hs, rfl⟩ := hrel
    by_cases hlt : j < us.length
    · obtain ⟨u, p, hu, hp, hL, d⟩ := (unhide HD).at hlt
      have hPp := unhide HP p (List.mem_of_getElem? hp)
      have hWp := unhide HW p (List.mem_of_getElem? hp)
      have hus := word_size hPp hL
      have Hwh := hide (fun wx : World => whole_any u wx (by omega))
      have Hch := hide (fun wx : World => chooses_any u row wx (by omega))
      have Hac := hide (fun wx : World => acts_any u wx)
      rw [hL, whl_word hPp] at Hwh
      rw [hL] at Hch
      rw [hL, act_word hPp] at Hac
      obtain ⟨st2, hst2⟩ := pile_at (unhide Hv) (j + 1)
      have hstep := hst2
      rw [pile_step hp, unhide Hs] at hstep
      have hsl := step_len hstep
      have Hs2 := hide hst2
      obtain ⟨s, nn⟩ := p
      simp only at Hwh Hac hsl
      have hlti : (j : Int) < (us.length : Int) := by omega
      rcases sg_cases hPp.1 with hs | hs | ⟨h1, h2⟩
      · simp only at hs
        subst hs
        have hl2 := hsl.1 rfl
        simp only [beq_self_eq_true, if_true] at Hwh
        rw [show opdB 48 = true from rfl] at Hac
        obtain ⟨ch, hch⟩ : ∃ ch, choB (wordC (48, nn)) row = ch := ⟨_, rfl⟩
        rw [hch] at Hch
        clear hu hp hL hPp hWp hst2 hstep hsl hch
        go_wp2_with fail
        refine (unhide Hwh _).mono ?_
        rintro e w2 ⟨rfl, rfl⟩
        go_wp2_with fail
        refine (unhide Hch _).mono ?_
        rintro e w2 ⟨rfl, rfl⟩
        go_wp2_with fail
        refine (unhide Hac _).mono ?_
        rintro e w2 ⟨rfl, rfl⟩
        go_wp2_with fail
        go_roundg (us.length - (j + 1))
        case measure => omega
        case rel => exact ⟨j + 1, st2, by omega, rfl, by go_num, by rw [hl2]; go_num, by omega, unhide Hs2, rfl⟩
      · have hch := cho_word hWp hs
        simp only at hs
        have h5 := u8_sel hs
        have hl2 := hsl.1 h5.2.2.2.2
        rw [h5.2.2.2.1] at Hwh
        simp only [Bool.false_eq_true, if_false] at Hwh
        rw [h5.2.2.2.2] at Hac
        rw [hch] at Hch
        clear hu hp hL hPp hWp hst2 hstep hsl hch hs h5
        go_wp2_with fail
        refine (unhide Hwh _).mono ?_
        rintro e w2 ⟨rfl, rfl⟩
        go_wp2_with fail
        refine (unhide Hch _).mono ?_
        rintro e w2 ⟨rfl, rfl⟩
        go_wp2_with fail
        refine (unhide Hac _).mono ?_
        rintro e w2 ⟨rfl, rfl⟩
        go_wp2_with fail
        go_roundg (us.length - (j + 1))
        case measure => omega
        case rel => exact ⟨j + 1, st2, by omega, rfl, by go_num, by rw [hl2]; go_num, by omega, unhide Hs2, rfl⟩
      · simp only at h1 h2
        have hw1 := wordC_op (p := (s, nn)) h1
        have h48 : (s == 48) = false := by
          cases h8 : (s == 48) with
          | false => rfl
          | true => rw [beq_iff_eq.1 h8] at h1; cases h1
        have hch : choB (wordC (s, nn)) row = false := by rw [hw1]; rfl
        rw [hch] at Hch
        rw [h48] at Hwh
        simp only [Bool.false_eq_true, if_false] at Hwh
        rw [h1] at Hac
        rw [hw1] at hL
        simp only at hL
        have h5 := op_five hPp h1
        simp only at h5
        rcases h5 with rfl | h5
        · obtain ⟨hl1, hl2⟩ := hsl.2.1 rfl rfl
          rw [lit126] at hL
          obtain rfl := one_byte hL
          clear hu hp hL hPp hWp hst2 hstep hsl hch hw1 h1 h2 h48
          go_wp2_with fail
          refine (unhide Hwh _).mono ?_
          rintro e w2 ⟨rfl, rfl⟩
          go_wp2_with fail
          refine (unhide Hch _).mono ?_
          rintro e w2 ⟨rfl, rfl⟩
          go_wp2_with fail
          refine (unhide Hac _).mono ?_
          rintro e w2 ⟨rfl, rfl⟩
          go_wp2_with fail
          go_roundg (us.length - (j + 1))
          case measure => omega
          case rel => exact ⟨j + 1, st2, by omega, rfl, by go_num, by rw [hl2], by omega, unhide Hs2, rfl⟩
        · have e126 : ¬ s = 126 := by omega
          obtain ⟨hl1, hl2⟩ := hsl.2.2 h1 e126
          have hll : (st.length : Int) - 1 = (st2.length : Int) := by omega
          clear hu hp hPp hWp hst2 hstep hsl hch hw1 h1 h2 h48
          rcases h5 with rfl | rfl | rfl | rfl
          all_goals
            first | rw [lit43] at hL | rw [lit45] at hL | rw [lit42] at hL | rw [lit47] at hL
            obtain rfl := one_byte hL
            clear hL
            go_wp2_with fail
            refine (unhide Hwh _).mono ?_
            rintro e w2 ⟨rfl, rfl⟩
            go_wp2_with fail
            refine (unhide Hch _).mono ?_
            rintro e w2 ⟨rfl, rfl⟩
            go_wp2_with fail
            refine (unhide Hac _).mono ?_
            rintro e w2 ⟨rfl, rfl⟩
            go_wp2_with fail
            go_roundg (us.length - (j + 1))
            case measure => omega
            case rel => exact ⟨j + 1, st2, by omega, rfl, by go_num, by first | rw [hll] | go_num, by omega, unhide Hs2, rfl⟩
    · obtain rfl : j = us.length := by omega
      have hs1 : st.length = 1 := by
        have h1 := unhide Hs
        rw [unhide Hlen, List.take_length, unhide Hv] at h1
        simp at h1
        rw [← h1]; rfl
      have hs1i : (st.length : Int) = 1 := by omega
      have hle' : us.length ≤ ps0.length := by have := unhide Hlen; omega
      go_wp2_with fail
      refine (unhide Hpa _).mono ?_
      rintro e w2 ⟨rfl, m, rfl⟩
      have Hun := hide (unfolded_any w.heap.size _ us ps (wr.drewN m) ((unhide HD).kept ((Below.refl _ _).drewN m)) (unhide HP) (unhide HN) (by omega) hul1)
      go_wp2_with fail
      refine (unhide Hun).mono ?_
      rintro e w3 ⟨rfl, hb3⟩
      have Hb3 := hide (((unhide Hb1).drewN m).then hb3)
      clear hb3
      go_wp2_with fail
      go_ret
      exact ⟨rfl, unhide Hb3⟩

end Go.Proofs.YtfancgphkcjgmaaGreatDoor
