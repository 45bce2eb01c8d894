/- Walks of the books: the document's old and refused. -/
import Derived.Test.YtpcdkhmahbecaaaGreatDoorBkM
namespace Go.Proofs.YtpcdkhmahbecaaaGreatDoor
open Go.RowKit Db

def oldE (txs : List Tn) (id day : Int) (ls : List Ln) : Int × Bool := match findT id txs with | some t => (repE t.2.1 day t.2.2 ls, true) | none => (0, false)
theorem oldE_some {txs : List Tn} {id day : Int} {ls : List Ln} {t : Tn} (h : findT id txs = some t) : oldE txs id day ls = (repE t.2.1 day t.2.2 ls, true) := by unfold oldE; rw [h]
theorem oldE_none {txs : List Tn} {id day : Int} {ls : List Ln} (h : findT id txs = none) : oldE txs id day ls = (0, false) := by unfold oldE; rw [h]
theorem sameB_rep {td day : Int} {ls ls' : List Ln} : repE td day ls ls' = if sameB ls ls' && (td == day) then 0 else 13 := by
  unfold repE sameB
  by_cases h1 : td = day <;> by_cases h2 : ls = ls' <;> simp [h1, h2]

set_option maxRecDepth 100000 in
set_option maxHeartbeats 2000000 in
theorem old_any (B p : Nat) (s : Bk) (id day : Int) (v : Value) (ls : List Ln) (w : World) (h : Rfd w B p s) (hl : LinesAt w v ls) :
    Calls Tryz.prog 17 #[.pointer (some ⟨p, 0, none⟩), .int .i64 id, .int .i64 day, v] w fun e w' => e = .returned (.tuple #[.int .i64 (oldE s.txs id day ls).1, .bool (oldE s.txs id day ls).2]) ∧ Below w.heap.size w w' := by
  obtain ⟨vp, vc, vt, tv, h⟩ := h
  obtain ⟨aol0, capl0, rfl⟩ := hl.form
  obtain ⟨ao, cap, rfl⟩ := ownsRow_form h.txs.own
  have hlen : tv.length ≤ 64 := by have := h.good.posts; rw [← h.jr, List.length_map] at this; exact this
  have Hjr := hide h.jr
  have H := hide h
  have HL := hide hl
  obtain ⟨⟨rx, rb⟩, hr⟩ : ∃ r, oldE s.txs id day ls = r := ⟨_, rfl⟩
  rw [hr]
  have Hr := hide hr
  clear h hl hr
  simp only
  go_enter Tryz.func17, Tryz.ntmps17
  go_wp2_with fail
  go_loopg [10] tv.length (fun m i wr => ∃ j : Nat, j ≤ tv.length ∧ m = tv.length - j ∧ i = .int .i64 j ∧ Hid (findT id (s.txs.drop j) = findT id s.txs) ∧ Hid (Below w.heap.size w wr))
  case atStart => exact ⟨0, by omega, rfl, rfl, rfl, Below.refl _ _⟩
  case round =>
    obtain ⟨j, hj, rfl, rfl, Ho, Hb⟩ := hrel
    have hsz := (unhide Hb).size
    have H1 := hide ((unhide H).kept (unhide Hb))
    have c2 := (unhide H1).blk.cell 2
    have hlb := (unhide H1).blk.lt
    simp only [List.getElem?_toArray, List.getElem?_cons_zero, List.getElem?_cons_succ] at c2
    by_cases hlt : j < tv.length
    · obtain ⟨⟨t, v⟩, ht⟩ : ∃ t, tv[j]? = some t := ⟨tv[j], List.getElem?_eq_getElem hlt⟩
      obtain ⟨g, _, e1, hg, hg'⟩ := ownsRow_some (unhide H1).txs.own (by omega)
      simp only [Value.slice.injEq, true_and] at e1
      obtain ⟨rfl, rfl⟩ := e1
      have h3 := three_get (fun x : Tn × Value => Value.int .i64 x.1.1) (fun x => .int .i64 x.1.2.1) (fun x => x.2) tv j (t, v) ht
      have d0 := ownsRow_cell (unhide H1).txs.own (j := j * 3) h3.1
      have d1 := ownsRow_cell (unhide H1).txs.own (j := j * 3 + 1) h3.2.1
      have d2 := ownsRow_cell (unhide H1).txs.own (j := j * 3 + 2) h3.2.2
      have hln := (unhide H1).txs.lns _ (List.mem_of_getElem? ht)
      have hst : s.txs[j]? = some t := by rw [← unhide Hjr, List.getElem?_map, ht]; rfl
      have h4 := ((unhide H).good.tx t (List.mem_of_getElem? hst)).2.2.2.2.1
      have Hst := hide (findT_step (id := id) hst)
      obtain ⟨ti, td, tl⟩ := t
      simp only at d0 d1 d2 hln Hst h4
      obtain ⟨aol, capl, rfl⟩ := ownsRow_form hln
      have Hln := hide hln
      clear h3 hln hst ht
      by_cases hid : ti = id
      · subst hid
        have Hrr : Hid (rx = repE td day tl ls ∧ rb = true) := by
          have h1 := (unhide Hr).symm.trans (oldE_some (t := (ti, td, tl)) (by rw [← unhide Ho, unhide Hst]; simp))
          exact (by simpa using h1 : rx = repE td day tl ls ∧ rb = true)
        obtain ⟨hrx, rfl⟩ := unhide Hrr
        rw [sameB_rep] at hrx
        have Hrx := hide hrx
        clear hrx Hrr
        go_wp2_with fail
        refine (alike_any tl ls _ _ _ (by exact (LinesAt.of_own (unhide Hln)).kept ((Below.refl _ _).alloc (Nat.le_refl _) _)) (by exact (unhide HL).kept ((unhide Hb).alloc hsz _)) h4).mono ?_
        rintro e w2 ⟨rfl, n, rfl⟩
        have HbF : Hid (Below w.heap.size w ((wr.alloc (Obj.cells #[Value.int IntKind.i64 ti, Value.int IntKind.i64 td, Value.slice aol tl.length capl] 50)).drewN n)) := ((unhide Hb).alloc hsz _).drewN _
        cases hsb : sameB tl ls with
        | false =>
          have hx : rx = 13 := by rw [unhide Hrx, hsb]; simp
          subst hx
          clear hsb
          go_wp2_with fail
          go_ret2
          exact ⟨rfl, unhide HbF⟩
        | true =>
          by_cases htd : td = day
          · subst htd
            have hx : rx = 0 := by rw [unhide Hrx, hsb]; simp
            subst hx
            clear hsb
            go_wp2_with fail
            go_ret2
            exact ⟨rfl, unhide HbF⟩
          · have hne : (td == day) = false := by simpa using htd
            have hx : rx = 13 := by rw [unhide Hrx, hsb, hne]; simp
            subst hx
            clear hsb
            go_wp2_with fail
            go_ret2
            exact ⟨rfl, unhide HbF⟩
      · have hne : (ti == id) = false := by simpa using hid
        go_wp2_with fail
        go_roundg (tv.length - (j + 1))
        case measure => omega
        case rel => exact ⟨j + 1, by omega, rfl, by go_num, by show _ = _; rw [← unhide Ho, unhide Hst, hne]; simp, (unhide Hb).alloc hsz _⟩
    · obtain rfl : j = tv.length := by omega
      have hrr : (rx, rb) = (0, false) := (unhide Hr).symm.trans (oldE_none (by rw [← unhide Ho, List.drop_of_length_le (by rw [← unhide Hjr, List.length_map]; exact Nat.le_refl _)]; rfl))
      simp only [Prod.mk.injEq] at hrr
      obtain ⟨rfl, rfl⟩ := hrr
      go_wp2_with fail
      go_ret2
      exact ⟨rfl, unhide Hb⟩

/-- What the document says against a new transaction. -/
def refE (s : Bk) (day : Int) (ls : List Ln) : Int := if day < 0 ∨ 999 < day then 14 else if ¬ lnsE s ls = 0 then lnsE s ls else if 64 ≤ s.txs.length then 11 else 0
theorem refE_14 {s : Bk} {day : Int} {ls : List Ln} (h : day < 0 ∨ 999 < day) : refE s day ls = 14 := if_pos h
theorem refE_l {s : Bk} {day : Int} {ls : List Ln} {x : Int} (h : ¬ (day < 0 ∨ 999 < day)) (hl : lnsE s ls = x) (hx : ¬ x = 0) : refE s day ls = x := by unfold refE; rw [if_neg h, hl, if_pos hx]
theorem refE_11 {s : Bk} {day : Int} {ls : List Ln} (h : ¬ (day < 0 ∨ 999 < day)) (hl : lnsE s ls = 0) (h64 : 64 ≤ s.txs.length) : refE s day ls = 11 := by unfold refE; rw [if_neg h, if_neg (by simp [hl]), if_pos h64]
theorem refE_0 {s : Bk} {day : Int} {ls : List Ln} (h : ¬ (day < 0 ∨ 999 < day)) (hl : lnsE s ls = 0) (h64 : ¬ 64 ≤ s.txs.length) : refE s day ls = 0 := by unfold refE; rw [if_neg h, if_neg (by simp [hl]), if_neg h64]

set_option maxRecDepth 100000 in
set_option maxHeartbeats 4000000 in
theorem refused_any (B p : Nat) (s : Bk) (day : Int) (v : Value) (ls : List Ln) (w : World) (h : Rfd w B p s) (hl : LinesAt w v ls) :
    Calls Tryz.prog 18 #[.pointer (some ⟨p, 0, none⟩), .int .i64 day, v] w fun e w' => e = .returned (.int .i64 (refE s day ls)) ∧ ∃ n, w' = w.drewN n := by
  have Hthere := hide (fun (a : Int) (n : Nat) (h : Rfd (w.drewN n) B p s) => there_any B p s a (w.drewN n) h)
  obtain ⟨vp, vc, vt, tv, h⟩ := h
  obtain ⟨ao, cap, rfl⟩ := hl.form
  obtain ⟨g2, cap2, rfl, hg2, hg2'⟩ := ownsRow_some h.clo h.good.one
  obtain ⟨aot, capt, rfl⟩ := ownsRow_form h.txs.own
  have c1 := h.blk.cell 1
  have c2 := h.blk.cell 2
  have hlp := h.blk.lt
  simp only [List.getElem?_toArray, List.getElem?_cons_zero, List.getElem?_cons_succ] at c1 c2
  have hfew := h.good.few
  have H := hide h
  have HL := hide hl
  have HRf : Hid (∀ n, Rfd (w.drewN n) B p s) := fun n => ⟨_, _, _, _, (unhide H).kept ((Below.refl _ w).drewN n)⟩
  obtain ⟨r, hr⟩ : ∃ r, refE s day ls = r := ⟨_, rfl⟩
  rw [hr]
  have Hr := hide hr
  clear h hl hr
  by_cases hd : day < 0 ∨ 999 < day
  · obtain rfl : r = 14 := (unhide Hr).symm.trans (refE_14 hd)
    have h2 : (2 : Int) ≤ ls.length ∨ (ls.length : Int) < 2 := by omega
    by_cases hneg : day < 0
    · rcases h2 with h2 | h2
      · go_enter Tryz.func18, Tryz.ntmps18
        go_wp2_with fail
        go_ret
        exact ⟨rfl, 0, rfl⟩
      · go_enter Tryz.func18, Tryz.ntmps18
        go_wp2_with fail
        go_ret
        exact ⟨rfl, 0, rfl⟩
    · have hgt : 999 < day := by omega
      rcases h2 with h2 | h2
      · go_enter Tryz.func18, Tryz.ntmps18
        go_wp2_with fail
        go_ret
        exact ⟨rfl, 0, rfl⟩
      · go_enter Tryz.func18, Tryz.ntmps18
        go_wp2_with fail
        go_ret
        exact ⟨rfl, 0, rfl⟩
  have hd0 : ¬ day < 0 := by omega
  have hd9 : ¬ 999 < day := by omega
  by_cases hlen : ls.length < 2 ∨ 4 < ls.length
  · obtain rfl : r = 15 := (unhide Hr).symm.trans (refE_l hd (lnsE_15 hlen) (by simp))
    by_cases h2 : ls.length < 2
    · have h2' : (ls.length : Int) < 2 := by omega
      go_enter Tryz.func18, Tryz.ntmps18
      go_wp2_with fail
      go_ret
      exact ⟨rfl, 0, rfl⟩
    · have h2' : (2 : Int) ≤ (ls.length : Int) := by omega
      have h4' : decide ((ls.length : Int) ≤ 4) = false := by simp; omega
      go_enter Tryz.func18, Tryz.ntmps18
      go_wp2_with fail
      go_ret
      exact ⟨rfl, 0, rfl⟩
  have h2' : (2 : Int) ≤ (ls.length : Int) := by omega
  have h4' : (ls.length : Int) ≤ 4 := by omega
  have h4 : ls.length ≤ 4 := by omega
  have Hm := hide (refAmounts_any _ ls w (unhide HL) h4)
  cases ham : ls.any amtB with
  | true =>
    obtain rfl : r = 16 := (unhide Hr).symm.trans (refE_l hd (lnsE_16 hlen ham) (by simp))
    rw [ham] at Hm
    clear ham
    go_enter Tryz.func18, Tryz.ntmps18
    go_wp2_with fail
    refine (unhide Hm).mono ?_
    rintro e w1 ⟨rfl, rfl⟩
    go_wp2_with fail
    go_ret
    exact ⟨rfl, 0, rfl⟩
  | false =>
    rw [ham] at Hm
    have Ham := hide ham
    have Hab := hide (amt_ok ham)
    have Hlen := hide hlen
    clear ham hlen
    go_enter Tryz.func18, Tryz.ntmps18
    go_wp2_with fail
    refine (unhide Hm).mono ?_
    rintro e w1 ⟨rfl, rfl⟩
    go_wp2_with fail
    go_loopg [9, 10] ls.length (fun m vn i wr => ∃ j : Nat, ∃ x : Int, j ≤ ls.length ∧ m = ls.length - j ∧ i = .int .i64 j ∧ vn = .int .i64 x ∧ -(1000000000000 * (j : Int)) ≤ x ∧ x ≤ 1000000000000 * (j : Int) ∧ Hid (x + sumL (ls.drop j) = sumL ls) ∧ Hid ((ls.drop j).all (accB s) = ls.all (accB s)) ∧ wr = w1)
    case atStart => exact ⟨0, 0, by omega, rfl, rfl, rfl, by omega, by omega, by show _ = _; simp, rfl, rfl⟩
    case round =>
      obtain ⟨j, x, hj, rfl, rfl, rfl, hx0, hx1, Ho, Hac, hW⟩ := hrel
      subst hW
      by_cases hlt : j < ls.length
      · obtain ⟨⟨la, lm⟩, hlj⟩ : ∃ l, ls[j]? = some l := ⟨ls[j], List.getElem?_eq_getElem hlt⟩
        obtain ⟨_, b, off, rfl, hbl, d1, d2⟩ := (unhide HL).line hlj
        have Hst := hide (sumL_step hlj)
        have Hst2 := hide (all_step (f := accB s) hlj)
        have hb := unhide Hab _ (List.mem_of_getElem? hlj)
        have Hth := hide (unhide Hthere la 0 (unhide HRf 0))
        simp only at d1 d2 Hst hb Hst2
        clear hlj
        go_wp2_with fail
        refine (unhide Hth).mono ?_
        rintro e w2 ⟨rfl, rfl⟩
        cases hth : ther s la with
        | false =>
          obtain rfl : r = 7 := (unhide Hr).symm.trans (refE_l hd (lnsE_7 (unhide Hlen) (unhide Ham) (by rw [← unhide Hac, unhide Hst2]; unfold accB; simp [hth])) (by simp))
          clear hth
          go_wp2_with fail
          go_ret
          exact ⟨rfl, 0, rfl⟩
        | true =>
          by_cases hl0 : la = 0
          · subst hl0
            obtain rfl : r = 7 := (unhide Hr).symm.trans (refE_l hd (lnsE_7 (unhide Hlen) (unhide Ham) (by rw [← unhide Hac, unhide Hst2]; unfold accB; simp)) (by simp))
            clear hth
            go_wp2_with fail
            go_ret
            exact ⟨rfl, 0, rfl⟩
          · have hne : (la == 0) = false := by simpa using hl0
            have hacc : accB s (la, lm) = true := by unfold accB; simp [hth, hne]
            have hwr : IntKind.i64.wrap (x + lm) = x + lm := by rw [IntKind.wrap_i64]; omega
            have Hac2 : Hid ((ls.drop (j + 1)).all (accB s) = ls.all (accB s)) := by show _ = _; rw [← unhide Hac, unhide Hst2, hacc]; simp
            clear hth hacc
            go_wp2_with fail
            go_roundg (ls.length - (j + 1))
            case measure => omega
            case rel => exact ⟨j + 1, x + lm, by omega, rfl, by go_num, rfl, by omega, by omega, by show _ = _; have := unhide Ho; rw [unhide Hst] at this; omega, unhide Hac2, rfl⟩
      · obtain rfl : j = ls.length := by omega
        have hxs : x = sumL ls := by have := unhide Ho; rw [List.drop_length] at this; simpa [sumL] using this
        have Hxs := hide hxs
        have Hall : Hid (ls.all (accB s) = true) := by show _ = _; rw [← unhide Hac, List.drop_length]; rfl
        clear hxs Ho Hac
        obtain ⟨W0, hW0⟩ : ∃ W0, W0 = wr := ⟨_, rfl⟩
        subst hW0
        go_wp2_with fail
        go_loopg [12] ls.length (fun m i wx => ∃ j n : Nat, j ≤ ls.length ∧ m = ls.length - j ∧ i = .int .i64 j ∧ Hid (((ls.drop j).any fun l => clsd s l.1) = ls.any fun l => clsd s l.1) ∧ wx = W0.drewN n)
        case atStart => exact ⟨0, 0, by omega, rfl, rfl, rfl, rfl⟩
        case round =>
          obtain ⟨j, n, hj, rfl, rfl, Hc, hW⟩ := hrel
          subst hW
          by_cases hlt : j < ls.length
          · obtain ⟨⟨la, lm⟩, hlj⟩ : ∃ l, ls[j]? = some l := ⟨ls[j], List.getElem?_eq_getElem hlt⟩
            obtain ⟨_, b, off, rfl, hbl, d1, d2⟩ := (unhide HL).line hlj
            have Hst := hide (any_step (f := fun l : Ln => clsd s l.1) hlj)
            have hla := List.all_eq_true.1 (unhide Hall) _ (List.mem_of_getElem? hlj)
            unfold accB ther at hla
            simp only [Bool.and_eq_true, decide_eq_true_eq] at hla
            obtain ⟨k, rfl⟩ : ∃ k : Nat, la = k := ⟨la.toNat, by omega⟩
            have hk : k < s.acs.length := by omega
            obtain ⟨c, hc⟩ := acs_get hk
            have d3 := ownsRow_cell (unhide H).clo (j := k) (u := .bool c.2) (by rw [List.getElem?_map, hc]; rfl)
            have hcl := clsd_at hc
            simp only at d1 d2 Hst
            rw [hcl] at Hst
            clear hlj hla hc hcl
            cases hcc : c.2 with
            | true =>
              rw [hcc] at d3 Hst
              obtain rfl : r = 8 := (unhide Hr).symm.trans (refE_l hd (lnsE_8 (unhide Hlen) (unhide Ham) (unhide Hall) (by rw [← unhide Hc, unhide Hst]; simp)) (by simp))
              go_upto_region 20 with fail
              go_quiet (fail)
              go_wp2_with fail
              go_ret
              exact ⟨rfl, _, by first | rfl | exact (World.drewN_drewN _ _ _)⟩
            | false =>
              rw [hcc] at d3 Hst
              go_upto_region 20 with fail
              go_quiet (fail)
              go_wp2_with fail
              go_roundg (ls.length - (j + 1))
              case measure => omega
              case rel => exact ⟨j + 1, _, by omega, rfl, by go_num, by show _ = _; rw [← unhide Hc, unhide Hst]; simp, by first | rfl | exact (World.drewN_drewN _ _ _)⟩
          · obtain rfl : j = ls.length := by omega
            have Hncl : Hid ((ls.any fun l => clsd s l.1) = false) := by show _ = _; rw [← unhide Hc, List.drop_length]; rfl
            have hjl : tv.length = s.txs.length := by rw [← (unhide H).jr, List.length_map]
            have hgp := (unhide H).good.posts
            by_cases hx : x = 0
            · subst hx
              have hle := lnsE_0 (unhide Hlen) (unhide Ham) (unhide Hall) (unhide Hncl) (unhide Hxs).symm
              by_cases h64 : 64 ≤ s.txs.length
              · obtain rfl : r = 11 := (unhide Hr).symm.trans (refE_11 hd hle h64)
                have he : ((tv.length : Int) == 64) = true := by simp; omega
                clear hle hjl hgp h64
                go_wp2_with fail
                go_ret
                exact ⟨rfl, n, rfl⟩
              · obtain rfl : r = 0 := (unhide Hr).symm.trans (refE_0 hd hle h64)
                have he : ((tv.length : Int) == 64) = false := by simp; omega
                clear hle hjl hgp h64
                go_wp2_with fail
                go_ret
                exact ⟨rfl, n, rfl⟩
            · obtain rfl : r = 17 := (unhide Hr).symm.trans (refE_l hd (lnsE_17 (unhide Hlen) (unhide Ham) (unhide Hall) (unhide Hncl) (by rw [← unhide Hxs]; exact hx)) (by simp))
              have hxe : (x == 0) = false := by simpa using hx
              clear hjl hgp
              go_wp2_with fail
              go_ret
              exact ⟨rfl, n, rfl⟩

end Go.Proofs.YtpcdkhmahbecaaaGreatDoor
