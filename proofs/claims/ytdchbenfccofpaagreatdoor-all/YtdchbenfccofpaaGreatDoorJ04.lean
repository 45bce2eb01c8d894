/- Own texts of the theorem in YtdchbenfccofpaaGreatDoorWAlY, part 04. -/
import Derived.Test.YtdchbenfccofpaaGreatDoorJ03
import Derived.Maps.AppendAt
set_option maxRecDepth 100000
set_option maxHeartbeats 2000000
namespace Go.Proofs.YtdchbenfccofpaaGreatDoor
open Go.RowKit Db
theorem hasClosed_any (B p : Nat) (s : Bk) (v : Value) (ls : List Ln) (w : World) (hs : Led w B p s) (h : LinesAt w v ls) (h4 : ls.length ≤ 4) (hacc : ls.all (accB s) = true) :
  Calls Tryz.prog 188 #[.pointer (some ⟨p, 0, none⟩), v] w fun e w' => e = .returned (.bool (ls.any fun l => clsd s l.1)) ∧ Below w.heap.size w w' := by
 obtain ⟨va, vt, tv, dk, hs⟩ := hs
 obtain ⟨g, capa, rfl, hg, hg'⟩ := oSome hs.acs hs.good.one
 have hfew := hs.good.few
 obtain ⟨ao, cap, rfl⟩ := h.form
 have H := hI h
 have HS := hI hs
 have Hacc := hI hacc
 clear h hs hacc
 go_enter Tryz.func188, Tryz.ntmps188
 go_wp2_with fail
 go_loopg [10] ls.length (fun m i wr => ∃ j : Nat, j ≤ ls.length ∧ m = ls.length - j ∧ i = .int .i64 j ∧ Hid (((ls.drop j).any fun l => clsd s l.1) = ls.any fun l => clsd s l.1) ∧ Hid (Below w.heap.size w wr))
 case atStart => exact ⟨0, by omega, rfl, rfl, rfl, Below.refl _ _⟩
 case round =>
  obtain ⟨j, hj, rfl, rfl, Ho, Hb⟩ := hrel
  have hsz := Hb.u.size
  have HS1 := hI (HS.u.kept Hb.u)
  have c0 := HS1.u.blk.cell 0
  have hlb := HS1.u.blk.lt
  simp only [List.getElem?_toArray, List.getElem?_cons_zero] at c0
  by_cases hlt : j < ls.length
  ·obtain ⟨⟨la, lm⟩, hl⟩ : ∃ l, ls[j]? = some l := ⟨ls[j], List.getElem?_eq_getElem hlt⟩
   obtain ⟨_, b, off, rfl, hbl, d1, d2⟩ := (H.u.kept Hb.u).line hl
   have Hst := hI (any_step (f := fun l : Ln => clsd s l.1) hl)
   have hla := List.all_eq_true.1 Hacc.u _ (List.mem_of_getElem? hl)
   unfold accB ther at hla
   simp only [Bool.and_eq_true, decide_eq_true_eq] at hla
   obtain ⟨k, rfl⟩ : ∃ k : Nat, la = k := ⟨la.toNat, by omega⟩
   have hk : k < s.acs.length := by omega
   obtain ⟨c, hc⟩ := acs_get hk
   have d3 := oCell HS1.u.acs (j := k * 2 + 1) (two_get (fun a : Ac => Value.int .i64 a.1) (fun a => .bool a.2) s.acs k c hc).2
   have hcl := clsd_at hc
   have hgl : g < wr.heap.size := by omega
   simp only at d1 d2 Hst
   rw [hcl] at Hst
   clear hl hla hc hcl
   cases hcc : c.2 with
   | true =>
    rw [hcc] at d3 Hst
    go_wp2_with fail
    go_ret
    exact ⟨retB' (by rw [← Ho.u, Hst.u]; simp), Hb.u.alloc hsz _⟩
   | false =>
    rw [hcc] at d3 Hst
    go_wp2_with fail
    go_roundg (ls.length - (j + 1))
    case measure => omega
    case rel => exact ⟨j + 1, by omega, rfl, by go_num, by show _ = _; rw [← Ho.u, Hst.u]; simp, Hb.u.alloc hsz _⟩
  ·obtain rfl : j = ls.length := by omega
   go_wp2_with fail
   go_ret
   exact ⟨retB' (by rw [← Ho.u, List.drop_length]; rfl), Hb.u⟩
theorem lnsE_15 {s : Bk} {ls : List Ln} (h : ls.length < 2 ∨ 4 < ls.length) : lnsE s ls = 15 := by unfold lnsE; rw [if_pos h]
theorem lnsE_16 {s : Bk} {ls : List Ln} (h : ¬ (ls.length < 2 ∨ 4 < ls.length)) (h1 : ls.any amtB = true) : lnsE s ls = 16 := by unfold lnsE; rw [if_neg h, if_pos h1]
theorem lnsE_7 {s : Bk} {ls : List Ln} (h : ¬ (ls.length < 2 ∨ 4 < ls.length)) (h1 : ls.any amtB = false) (h2 : ls.all (accB s) = false) : lnsE s ls = 7 := by unfold lnsE; rw [if_neg h, if_neg (by simp [h1]), if_pos h2]
theorem lnsE_8 {s : Bk} {ls : List Ln} (h : ¬ (ls.length < 2 ∨ 4 < ls.length)) (h1 : ls.any amtB = false) (h2 : ls.all (accB s) = true) (h3 : (ls.any fun l => clsd s l.1) = true) : lnsE s ls = 8 := by unfold lnsE; rw [if_neg h, if_neg (by simp [h1]), if_neg (by simp [h2]), if_pos h3]
theorem lnsE_17 {s : Bk} {ls : List Ln} (h : ¬ (ls.length < 2 ∨ 4 < ls.length)) (h1 : ls.any amtB = false) (h2 : ls.all (accB s) = true) (h3 : (ls.any fun l => clsd s l.1) = false) (h4 : ¬ sumL ls = 0) : lnsE s ls = 17 := by unfold lnsE; rw [if_neg h, if_neg (by simp [h1]), if_neg (by simp [h2]), if_neg (by simp [h3]), if_pos h4]
theorem lnsE_0 {s : Bk} {ls : List Ln} (h : ¬ (ls.length < 2 ∨ 4 < ls.length)) (h1 : ls.any amtB = false) (h2 : ls.all (accB s) = true) (h3 : (ls.any fun l => clsd s l.1) = false) (h4 : sumL ls = 0) : lnsE s ls = 0 := by unfold lnsE; rw [if_neg h, if_neg (by simp [h1]), if_neg (by simp [h2]), if_neg (by simp [h3]), if_neg (by simp [h4])]
theorem amt_ok {ls : List Ln} (h : ls.any amtB = false) : ∀ l ∈ ls, -1000000000000 ≤ l.2 ∧ l.2 ≤ 1000000000000 := by
 intro l hl
 have a : amtB l = false := by simpa using List.any_eq_false.1 h l hl
 unfold amtB at a
 simp only [Bool.or_eq_false_iff, decide_eq_false_iff_not] at a
 omega
theorem checkLines_any (B p : Nat) (s : Bk) (v : Value) (ls : List Ln) (w : World) (hs : Led w B p s) (h : LinesAt w v ls) :
  Calls Tryz.prog 144 #[.pointer (some ⟨p, 0, none⟩), v] w fun e w' => e = .returned (.int .i64 (lnsE s ls)) ∧ Below w.heap.size w w' := by
 obtain ⟨va, vt, tv, dk, hs⟩ := hs
 have H := hI h
 have HS := hI hs
 obtain ⟨ao, cap, rfl⟩ := h.form
 clear h hs
 by_cases hlen : ls.length < 2 ∨ 4 < ls.length
 ·rw [lnsE_15 hlen]
  by_cases h2 : ls.length < 2
  ·have hd : decide ((ls.length : Int) < 2) = true := by simp; omega
   go_enter Tryz.func144, Tryz.ntmps144
   go_wp2_with fail
   go_ret
   exact ⟨rfl, Below.refl _ _⟩
  ·have hd : decide ((ls.length : Int) < 2) = false := by simp; omega
   have hd2 : decide ((4 : Int) < (ls.length : Int)) = true := by simp; omega
   go_enter Tryz.func144, Tryz.ntmps144
   go_wp2_with fail
   go_ret
   exact ⟨rfl, Below.refl _ _⟩
 ·have hd : decide ((ls.length : Int) < 2) = false := by simp; omega
  have hd2 : decide ((4 : Int) < (ls.length : Int)) = false := by simp; omega
  have h4 : ls.length ≤ 4 := by omega
  have Hm := hI (amounts_any _ ls w H.u h4)
  cases ham : ls.any amtB with
  | true =>
   rw [lnsE_16 hlen ham]
   rw [ham] at Hm
   clear ham
   go_enter Tryz.func144, Tryz.ntmps144
   go_wp2_with fail
   refine Hm.u.mono ?_
   rintro e w1 ⟨rfl, hb1⟩
   have Hb1 := hI hb1
   clear hb1
   go_wp2_with fail
   go_ret
   exact ⟨rfl, Hb1.u⟩
  | false =>
   rw [ham] at Hm
   have Ham := hI ham
   have Hc := hI (fun (wx : World) (hb : Below w.heap.size w wx) => hasAccounts_any B p s _ ls wx ⟨_, _, _, _, HS.u.kept hb⟩ (H.u.kept hb) h4)
   cases hac : ls.all (accB s) with
   | false =>
    rw [lnsE_7 hlen ham hac]
    rw [hac] at Hc
    clear hac ham
    go_enter Tryz.func144, Tryz.ntmps144
    go_wp2_with fail
    refine Hm.u.mono ?_
    rintro e w1 ⟨rfl, hb1⟩
    have Hb1 := hI hb1
    clear hb1
    go_wp2_with fail
    refine (Hc.u _ Hb1.u).mono ?_
    rintro e w2 ⟨rfl, hb2⟩
    have Hb2 := hI (Hb1.u.then hb2)
    clear hb2
    go_wp2_with fail
    go_ret
    exact ⟨rfl, Hb2.u⟩
   | true =>
    rw [hac] at Hc
    have Hac := hI hac
    have Hd := hI (fun (wx : World) (hb : Below w.heap.size w wx) => hasClosed_any B p s _ ls wx ⟨_, _, _, _, HS.u.kept hb⟩ (H.u.kept hb) h4 Hac.u)
    cases hcl : (ls.any fun l => clsd s l.1) with
    | true =>
     rw [lnsE_8 hlen ham hac hcl]
     rw [hcl] at Hd
     clear hac ham hcl
     go_enter Tryz.func144, Tryz.ntmps144
     go_wp2_with fail
     refine Hm.u.mono ?_
     rintro e w1 ⟨rfl, hb1⟩
     have Hb1 := hI hb1
     clear hb1
     go_wp2_with fail
     refine (Hc.u _ Hb1.u).mono ?_
     rintro e w2 ⟨rfl, hb2⟩
     have Hb2 := hI (Hb1.u.then hb2)
     clear hb2
     go_wp2_with fail
     refine (Hd.u _ Hb2.u).mono ?_
     rintro e w3 ⟨rfl, hb3⟩
     have Hb3 := hI (Hb2.u.then hb3)
     clear hb3
     go_wp2_with fail
     go_ret
     exact ⟨rfl, Hb3.u⟩
    | false =>
     rw [hcl] at Hd
     have Ht := hI (fun (wx : World) (hb : Below w.heap.size w wx) => total_any _ ls wx (H.u.kept hb) h4 (amt_ok Ham.u))
     by_cases hsum : sumL ls = 0
     ·rw [lnsE_0 hlen ham hac hcl hsum]
      rw [hsum] at Ht
      clear hac ham hcl hsum
      go_enter Tryz.func144, Tryz.ntmps144
      go_wp2_with fail
      refine Hm.u.mono ?_
      rintro e w1 ⟨rfl, hb1⟩
      have Hb1 := hI hb1
      clear hb1
      go_wp2_with fail
      refine (Hc.u _ Hb1.u).mono ?_
      rintro e w2 ⟨rfl, hb2⟩
      have Hb2 := hI (Hb1.u.then hb2)
      clear hb2
      go_wp2_with fail
      refine (Hd.u _ Hb2.u).mono ?_
      rintro e w3 ⟨rfl, hb3⟩
      have Hb3 := hI (Hb2.u.then hb3)
      clear hb3
      go_wp2_with fail
      refine (Ht.u _ Hb3.u).mono ?_
      rintro e w4 ⟨rfl, hb4⟩
      have Hb4 := hI (Hb3.u.then hb4)
      clear hb4
      go_wp2_with fail
      go_ret
      exact ⟨rfl, Hb4.u⟩
     ·rw [lnsE_17 hlen ham hac hcl hsum]
      obtain ⟨x, hx⟩ : ∃ x, sumL ls = x := ⟨_, rfl⟩
      rw [hx] at Ht hsum
      have hxe : (x == 0) = false := by simpa using hsum
      clear hac ham hcl hx
      go_enter Tryz.func144, Tryz.ntmps144
      go_wp2_with fail
      refine Hm.u.mono ?_
      rintro e w1 ⟨rfl, hb1⟩
      have Hb1 := hI hb1
      clear hb1
      go_wp2_with fail
      refine (Hc.u _ Hb1.u).mono ?_
      rintro e w2 ⟨rfl, hb2⟩
      have Hb2 := hI (Hb1.u.then hb2)
      clear hb2
      go_wp2_with fail
      refine (Hd.u _ Hb2.u).mono ?_
      rintro e w3 ⟨rfl, hb3⟩
      have Hb3 := hI (Hb2.u.then hb3)
      clear hb3
      go_wp2_with fail
      refine (Ht.u _ Hb3.u).mono ?_
      rintro e w4 ⟨rfl, hb4⟩
      have Hb4 := hI (Hb3.u.then hb4)
      clear hb4
      go_wp2_with fail
      go_ret
      exact ⟨rfl, Hb4.u⟩
theorem findT_step {id : Int} {l : List Tn} {j : Nat} {t : Tn} (h : l[j]? = some t) : findT id (l.drop j) = if t.1 == id then some t else findT id (l.drop (j + 1)) := by
 obtain ⟨hi, rfl⟩ := List.getElem?_eq_some_iff.1 h
 rw [List.drop_eq_getElem_cons hi]; rfl
theorem find_any (B p : Nat) (s : Bk) (id : Int) (va vt : Value) (tv : List (Tn × Value)) (dk : Dk) (w : World) (h : LedAt w B p va vt tv dk s) :
  Calls Tryz.prog 142 #[.pointer (some ⟨p, 0, none⟩), .int .i64 id] w fun e w' => ((∃ t v, findT id s.txs = some t ∧ (t, v) ∈ tv ∧ e = .returned (.tuple #[.agg #[.int .i64 t.1, .int .i64 t.2.1, v], .bool true])) ∨
   (findT id s.txs = none ∧ e = .returned (.tuple #[.agg #[.int .i64 0, .int .i64 0, .slice none 0 0], .bool false]))) ∧ Below w.heap.size w w' := by
 obtain ⟨ao, cap, rfl⟩ := oForm h.txs.own
 have c1 := h.blk.cell 1
 have hlp := h.blk.lt
 simp only [List.getElem?_toArray, List.getElem?_cons_zero, List.getElem?_cons_succ] at c1
 have hlen : tv.length ≤ 64 := by have := h.good.posts; rw [← h.jr, List.length_map] at this; exact this
 have Hjr := hI h.jr
 have H := hI h
 clear h
 go_enter Tryz.func142, Tryz.ntmps142
 go_wp2_with fail
 obtain ⟨W, hW⟩ : ∃ W, w.alloc (.cells #[.int .i64 0, .int .i64 0, .slice none 0 0] 148) = W := ⟨_, rfl⟩
 rw [hW]
 have hWs : W.heap.size = w.heap.size + 1 := by rw [← hW]; simp
 have HB : Hid (Blk W w.heap.size #[.int .i64 0, .int .i64 0, .slice none 0 0] 148) := by rw [← hW]; exact Blk.new _ _ _
 have Hw : Hid (Below w.heap.size w W) := by rw [← hW]; exact (Below.refl _ _).alloc (Nat.le_refl _) _
 have H1 := hI (H.u.kept Hw.u)
 clear hW H
 go_loopg [13] tv.length (fun m i wr => ∃ j : Nat, j ≤ tv.length ∧ m = tv.length - j ∧ i = .int .i64 j ∧ Hid (findT id (s.txs.drop j) = findT id s.txs) ∧ Hid (Below W.heap.size W wr))
 case atStart => exact ⟨0, by omega, rfl, rfl, rfl, Below.refl _ _⟩
 case round =>
  obtain ⟨j, hj, rfl, rfl, Ho, Hb⟩ := hrel
  have hsz := Hb.u.size
  have HB1 := hI (HB.u.kept Hb.u)
  have r0 := HB1.u.cell 0
  have r1 := HB1.u.cell 1
  have r2 := HB1.u.cell 2
  have y0 := HB1.u.frozen 0
  have y1 := HB1.u.frozen 1
  have y2 := HB1.u.frozen 2
  have ly := HB1.u.lt
  simp only [List.getElem?_toArray, List.getElem?_cons_zero, List.getElem?_cons_succ] at r0 r1 r2
  by_cases hlt : j < tv.length
  ·obtain ⟨⟨t, v⟩, ht⟩ : ∃ t, tv[j]? = some t := ⟨tv[j], List.getElem?_eq_getElem hlt⟩
   obtain ⟨g, _, e1, hg, hg'⟩ := oSome H1.u.txs.own (by omega)
   simp only [Value.slice.injEq, true_and] at e1
   obtain ⟨rfl, rfl⟩ := e1
   have h3 := three_get (fun x : Tn × Value => Value.int .i64 x.1.1) (fun x => .int .i64 x.1.2.1) (fun x => x.2) tv j (t, v) ht
   have hro := oBelow H1.u.txs.own Hb.u
   have d0 := oCell hro (j := j * 3) h3.1
   have d1 := oCell hro (j := j * 3 + 1) h3.2.1
   have d2 := oCell hro (j := j * 3 + 2) h3.2.2
   have hmem := List.mem_of_getElem? ht
   have hl := H1.u.txs.lns _ hmem
   have hst : s.txs[j]? = some t := by rw [← Hjr.u, List.getElem?_map, ht]; rfl
   have Hst := hI (findT_step (id := id) hst)
   have Hmem := hI hmem
   obtain ⟨ti, td, ls⟩ := t
   simp only at d0 d1 d2 hl Hst Hmem
   obtain ⟨aol, capl, rfl⟩ := oForm hl
   clear h3 hro hmem hl hst ht
   by_cases hid : ti = id
   ·subst hid
    go_wp2_with fail
    refine bodyPost_ret (v := .tuple #[.agg #[.int .i64 ti, .int .i64 td, .slice aol ls.length capl], .bool true]) (by simp [results, Tryz.results142, go_sem, r0, r1, r2, ly]) rfl ⟨.inl ⟨(ti, td, ls), _, by rw [← Ho.u, Hst.u]; simp, Hmem.u, rfl⟩, ?_⟩
    have hb0 := Hw.u.then' (by omega) Hb.u
    exact (((hb0.setCell (by simp) _).setCell (by simp) _).setCell (by simp) _).alloc (by simp [World.setCell]; omega) _
   ·have hne : (ti == id) = false := by simpa using hid
    go_wp2_with fail
    go_roundg (tv.length - (j + 1))
    case measure => omega
    case rel => exact ⟨j + 1, by omega, rfl, by go_num, by show _ = _; rw [← Ho.u, Hst.u, hne]; simp, Hb.u.alloc hsz _⟩
  ·obtain rfl : j = tv.length := by omega
   go_wp2_with fail
   refine bodyPost_ret (v := .tuple #[.agg #[.int .i64 0, .int .i64 0, .slice none 0 0], .bool false]) (by simp [results, Tryz.results142, go_sem, r0, r1, r2]) rfl ⟨.inr ⟨?_, rfl⟩, ?_⟩
   ·rw [← Ho.u, List.drop_of_length_le (by rw [← Hjr.u, List.length_map]; exact Nat.le_refl _)]; rfl
   ·have hb0 := Hw.u.then' (by omega) Hb.u
    exact ((hb0.setCell (by simp) _).setCell (by simp) _).setCell (by simp) _
def repE (td day : Int) (ls ls' : List Ln) : Int := if td = day ∧ ls = ls' then 0 else 13
theorem repE_yes {td day : Int} {ls ls' : List Ln} (h : td = day ∧ ls = ls') : repE td day ls ls' = 0 := if_pos h
theorem repE_no {td day : Int} {ls ls' : List Ln} (h : ¬ (td = day ∧ ls = ls')) : repE td day ls ls' = 13 := if_neg h
theorem take_more {α : Type} {a b : List α} {j : Nat} {x : α} (h : a.take j = b.take j) (ha : a[j]? = some x) (hb : b[j]? = some x) : a.take (j + 1) = b.take (j + 1) := by
 rw [List.take_add_one, List.take_add_one, h, ha, hb]
theorem repeated_any (ti td day : Int) (ls ls' : List Ln) (v v' : Value) (w : World) (h : LinesAt w v ls) (h' : LinesAt w v' ls') (h4 : ls.length ≤ 4) :
   Calls Tryz.prog 143 #[.agg #[.int .i64 ti, .int .i64 td, v], .int .i64 day, v'] w fun e w' => e = .returned (.int .i64 (repE td day ls ls')) ∧ Below w.heap.size w w' := by
 obtain ⟨ao, cap, rfl⟩ := h.form
 obtain ⟨ao', cap', rfl⟩ := h'.form
 have H := hI h
 have H' := hI h'
 clear h h'
 by_cases hday : td = day
 · subst hday
   by_cases hlen : ls.length = ls'.length
   · have he : ((ls.length : Int) != (ls'.length : Int)) = false := by simp; omega
     have Hlen := hI hlen
     have h4' : ls'.length ≤ 4 := by omega
     clear hlen
     go_enter Tryz.func143, Tryz.ntmps143
     go_wp2_with fail
     obtain ⟨W, hW⟩ : ∃ W, w.alloc (.cells #[.int .i64 ti, .int .i64 td, .slice ao ls.length cap] 148) = W := ⟨_, rfl⟩
     rw [hW]
     have hWs : W.heap.size = w.heap.size + 1 := by rw [← hW]; simp
     have Hw : Hid (Below w.heap.size w W) := by rw [← hW]; exact (Below.refl _ _).alloc (Nat.le_refl _) _
     clear hW
     go_loopg [24] ls.length (fun m i wr => ∃ j : Nat, j ≤ ls.length ∧ m = ls.length - j ∧ i = .int .i64 j ∧ Hid (ls.take j = ls'.take j) ∧ Hid (Below W.heap.size W wr))
     case atStart => exact ⟨0, by omega, rfl, rfl, rfl, Below.refl _ _⟩
     case round =>
       obtain ⟨j, hj, rfl, rfl, Ho, Hb⟩ := hrel
       have hsz := Hb.u.size
       have HbW := hI (Hw.u.then' (by omega) Hb.u)
       by_cases hlt : j < ls.length
       · obtain ⟨⟨la, lm⟩, hl⟩ : ∃ l, ls[j]? = some l := ⟨ls[j], List.getElem?_eq_getElem hlt⟩
         obtain ⟨⟨ra, rm⟩, hr⟩ : ∃ l, ls'[j]? = some l := ⟨ls'[j]'(by rw [← Hlen.u]; exact hlt), List.getElem?_eq_getElem _⟩
         obtain ⟨_, b, off, rfl, hbl, d1, d2⟩ := (H.u.kept HbW.u).line hl
         obtain ⟨_, b', off', rfl, hbl', f1, f2⟩ := (H'.u.kept HbW.u).line hr
         have hge : decide (ls'.length ≤ j) = false := by have := Hlen.u; simp; omega
         have hlt' : (j : Int) < (ls'.length : Int) := by have := Hlen.u; omega
         have Hl := hI hl
         have Hr := hI hr
         simp only at d1 d2 f1 f2
         clear hl hr
         by_cases hsame : ra = la ∧ rm = lm
         · obtain ⟨rfl, rfl⟩ := hsame
           go_upto_region 6 with fail
           go_quiet (fail)
           go_wp2_with fail
           go_roundg (ls.length - (j + 1))
           case measure => omega
           case rel => exact ⟨j + 1, by omega, rfl, by go_num, take_more Ho.u Hl.u Hr.u, (Hb.u.alloc hsz _).drewN _⟩
         · have Hno : Hid (13 = repE td td ls ls') := by
             refine (repE_no ?_).symm
             rintro ⟨_, e⟩
             have h1 := Hl.u
             have h2 := Hr.u
             rw [e, h2] at h1
             simp only [Option.some.injEq, Prod.mk.injEq] at h1
             exact hsame h1
           by_cases hra : ra = la
           · subst hra
             have hrm : (rm == lm) = false := by simpa using hsame
             have hrm2 : ¬ rm = lm := by simpa using hrm
             clear hsame
             go_upto_region 6 with fail
             go_quiet (fail)
             go_wp2_with fail
             go_ret
             exact ⟨retI' Hno.u, (HbW.u.alloc (by omega) _).drewN _⟩
           · have hrm : (ra == la) = false := by simpa using hra
             clear hsame
             go_upto_region 6 with fail
             go_quiet (fail)
             go_wp2_with fail
             go_ret
             exact ⟨retI' Hno.u, (HbW.u.alloc (by omega) _).drewN _⟩
       · obtain rfl : j = ls.length := by omega
         go_wp2_with fail
         go_ret
         refine ⟨retI' ?_, HbW.u⟩
         have h1 := Ho.u
         rw [List.take_length, Hlen.u, List.take_length] at h1
         exact (repE_yes ⟨rfl, h1⟩).symm
   · have he : ((ls.length : Int) == (ls'.length : Int)) = false := by simp; omega
     go_enter Tryz.func143, Tryz.ntmps143
     go_wp2_with fail
     go_ret
     exact ⟨retI' (repE_no (by rintro ⟨_, e⟩; exact hlen (by rw [e]))).symm, (Below.refl _ _).alloc (Nat.le_refl _) _⟩
 · have he : (td == day) = false := by simpa using hday
   go_enter Tryz.func143, Tryz.ntmps143
   go_wp2_with fail
   go_ret
   exact ⟨retI' (repE_no (by rintro ⟨e, _⟩; exact hday e)).symm, (Below.refl _ _).alloc (Nat.le_refl _) _⟩
theorem info_line : (Tryz.prog.info? 89).map (fun i => (i.zero, i.size, i.bytes)) = some (some (.agg #[.int .i64 0, .int .i64 0]), 2, 16) := by kernel_rfl
theorem info_tx : (Tryz.prog.info? 148).map (fun i => (i.zero, i.size, i.bytes)) = some (some (.agg #[.int .i64 0, .int .i64 0, .slice none 0 0]), 3, 40) := by kernel_rfl
theorem pst_id {s : Bk} {id day : Int} {ls : List Ln} (h : id < 0 ∨ 9999 < id) : pst s id day ls = (12, s) := by unfold pst; rw [if_pos h]
theorem pst_old {s : Bk} {id day : Int} {ls : List Ln} {t : Tn} (h : ¬ (id < 0 ∨ 9999 < id)) (hf : findT id s.txs = some t) : pst s id day ls = (repE t.2.1 day t.2.2 ls, s) := by unfold pst; rw [if_neg h, hf]; rfl
theorem pst_day {s : Bk} {id day : Int} {ls : List Ln} (h : ¬ (id < 0 ∨ 9999 < id)) (hf : findT id s.txs = none) (hd : day < 0 ∨ 999 < day) : pst s id day ls = (14, s) := by unfold pst; rw [if_neg h, hf]; simp only; rw [if_pos hd]
theorem pst_bad {s : Bk} {id day : Int} {ls : List Ln} (h : ¬ (id < 0 ∨ 9999 < id)) (hf : findT id s.txs = none) (hd : ¬ (day < 0 ∨ 999 < day)) (hl : ¬ lnsE s ls = 0) : pst s id day ls = (lnsE s ls, s) := by unfold pst; rw [if_neg h, hf]; simp only; rw [if_neg hd, if_pos hl]
theorem pst_full {s : Bk} {id day : Int} {ls : List Ln} (h : ¬ (id < 0 ∨ 9999 < id)) (hf : findT id s.txs = none) (hd : ¬ (day < 0 ∨ 999 < day)) (hl : lnsE s ls = 0) (h64 : 64 ≤ s.txs.length) : pst s id day ls = (11, s) := by unfold pst; rw [if_neg h, hf]; simp only; rw [if_neg hd, if_neg (by simp [hl]), if_pos h64]
theorem pst_ok {s : Bk} {id day : Int} {ls : List Ln} (h : ¬ (id < 0 ∨ 9999 < id)) (hf : findT id s.txs = none) (hd : ¬ (day < 0 ∨ 999 < day)) (hl : lnsE s ls = 0) (h64 : ¬ 64 ≤ s.txs.length) : pst s id day ls = (0, { s with txs := s.txs ++ [(id, day, ls)] }) := by unfold pst; rw [if_neg h, hf]; simp only; rw [if_neg hd, if_neg (by simp [hl]), if_neg h64]
theorem cellsL_length (l : List Ln) : (cellsL l).length = l.length * 2 := by
 induction l with
 | nil => rfl
 | cons a r ih => simp only [cellsL, List.flatMap_cons, List.length_append, List.length_cons, List.length_nil] at ih ⊢; omega
theorem cellsL_one (l : List Ln) : ∀ u ∈ cellsL l, u.oneCell' = true := by
 intro u hu
 simp only [cellsL, List.mem_flatMap] at hu
 obtain ⟨a, _, hu⟩ := hu
 simp at hu
 rcases hu with rfl | rfl <;> rfl
theorem lines_cells {w : World} {b off : Nat} {ls : List Ln} (h : ∀ (i : Nat) (l : Ln), ls[i]? = some l → w.cell? ⟨b, off + i * 2, none⟩ = some (.int .i64 l.1) ∧ w.cell? ⟨b, off + i * 2 + 1, none⟩ = some (.int .i64 l.2)) :
  ∀ j u, (cellsL ls)[j]? = some u → w.cell? ((⟨b, off, none⟩ : Addr).add j) = some u := by
 intro j u hj
 rw [Addr.add_lit]
 have hlt : j < ls.length * 2 := by rw [← cellsL_length]; exact (List.getElem?_eq_some_iff.1 hj).1
 obtain ⟨l, hl⟩ : ∃ l, ls[j / 2]? = some l := ⟨ls[j / 2]'(by omega), List.getElem?_eq_getElem _⟩
 have h2 := two_get (fun x : Ln => Value.int .i64 x.1) (fun x => .int .i64 x.2) ls (j / 2) l hl
 have h3 := h (j / 2) l hl
 rcases Nat.mod_two_eq_zero_or_one j with hm | hm
 ·rw [show j = j / 2 * 2 by omega] at hj ⊢
  rw [show (j / 2 * 2) = j / 2 * 2 from rfl] at hj
  have := h2.1
  unfold cellsL at hj
  rw [this] at hj
  cases hj
  exact h3.1
 ·have e : j = j / 2 * 2 + 1 := by omega
  rw [e] at hj ⊢
  have := h2.2
  unfold cellsL at hj
  rw [this] at hj
  cases hj
  exact h3.2
theorem below_of_none {w w' : World} (h : w.grownBy w' none) : Below w.heap.size w w' := ⟨h.os, h.tape, h.output, h.size, fun k hk => h.block k hk (by simp)⟩
theorem LedAt.post {w w5 : World} {B p : Nat} {va vt vt' v2 : Value} {tv : List (Tn × Value)} {d : Dk} {s s' : Bk} {t : Tn} (h : LedAt w B p va vt tv d s) (o : Obj) (hv : w.ownsRow B 89 2 v2 t.2.2.length (cellsL t.2.2)) (hgr : (w.alloc o).grownBy w5 vt.ownBlock) (hblk : Blk w5 p #[va, vt, .int .i64 d.u, d.vw] 102)
  (hown : w5.ownsRow B 148 3 vt' (tv.length + 1) (cellsT (tv ++ [(t, v2)]))) (hs : s'.txs = s.txs ++ [t]) (ha : s'.acs = s.acs) (hg : BkGood s') (hcn : cnt s ≤ cnt s') :
  LedAt (w5.setCell ⟨p, 1, none⟩ vt') B p va vt' (tv ++ [(t, v2)]) d s' ∧ FrT B tP w (w5.setCell ⟨p, 1, none⟩ vt') := by
 have f1 : FrT B [148] w w5 := ((FrT.refl _ _ w).alloc o).grown hgr (T := 148) (by simp) (fun k hk => ⟨(oTg h.txs.own k hk).1, tg_alloc (oTg h.txs.own k hk).2 o⟩)
 have f2 : FrT B [102] w5 (w5.setCell ⟨p, 1, none⟩ vt') := (FrT.refl _ _ w5).setCell (T := 102) (by simp) hblk.tg h.lo _
 refine ⟨⟨?_, h.lo, ?_, ⟨?_, ?_⟩, ?_, hg, oFrT (oFrT h.dsk f1 (by decide)) f2 (by decide), h.dlen, Nat.le_trans h.dcnt hcn⟩, (f1.mono (by simp [tP])).trans (f2.mono (by simp [tP]))⟩
 ·have := hblk.set 1 vt'
  simpa using this
 ·rw [ha]; exact oFrT (oFrT h.acs f1 (by decide)) f2 (by decide)
 ·have := oFrT hown f2 (by decide)
  simpa using this
 ·intro x hx
  rcases List.mem_append.1 hx with hx | hx
  ·exact oFrT (oFrT (h.txs.lns x hx) f1 (by decide)) f2 (by decide)
  ·simp only [List.mem_singleton] at hx
   subst hx
   exact oFrT (oFrT hv f1 (by decide)) f2 (by decide)
 ·rw [hs, ← h.jr]; simp
def isN (s : Bk) (id day : Int) (ls : List Ln) : Bool := decide (s.txs.length < (pst s id day ls).2.txs.length)
theorem isN_no {s : Bk} {id day : Int} {ls : List Ln} (h : (pst s id day ls).2 = s) : isN s id day ls = false := by unfold isN; rw [h]; simp
theorem isN_yes {s : Bk} {id day : Int} {ls : List Ln} (h : (pst s id day ls).2 = { s with txs := s.txs ++ [(id, day, ls)] }) : isN s id day ls = true := by unfold isN; rw [h]; simp
theorem opn_cnt {s : Bk} (hg : BkGood s) (a : Int) : ((opn s a).2.1 = 0 ∧ 0 ≤ a ∧ a < 16 ∧ cnt (opn s a).2.2 = cnt s + 1) ∨ (¬ (opn s a).2.1 = 0 ∧ (opn s a).2.2 = s) := by
 have h1 := hg.few
 unfold opn
 repeat' split
 all_goals first | exact .inr ⟨by simp, rfl⟩ | skip
 rename_i h2 _ _
 left
 unfold ther at h2
 simp only [Bool.not_eq_false, Bool.and_eq_true, decide_eq_true_eq] at h2
 exact ⟨rfl, by omega, by omega, cnt_more hg rfl⟩
theorem cls_cnt {s : Bk} (hg : BkGood s) (a : Int) : ((cls s a).1 = 0 ∧ 0 ≤ a ∧ a < 16 ∧ cnt (cls s a).2 = cnt s + 1) ∨ (¬ (cls s a).1 = 0 ∧ (cls s a).2 = s) := by
 have h1 := hg.few
 unfold cls
 repeat' split
 all_goals first | exact .inr ⟨by simp, rfl⟩ | skip
 rename_i h2 h3 _ _
 left
 have h4 : ther s a = true := by cases hx : ther s a with | true => rfl | false => exact absurd (.inl hx) h2
 unfold ther at h4
 simp only [Bool.and_eq_true, decide_eq_true_eq] at h4
 obtain ⟨c, hc⟩ := acs_get (s := s) (k := a.toNat) (by omega)
 have h5 : clsd s a = c.2 := by unfold clsd; simp [hc]
 have h6 : s.acs.getD a.toNat (0, false) = c := by simp [hc]
 refine ⟨rfl, by omega, by omega, ?_⟩
 simp only [h6]
 rw [cnt_shut hc, if_neg (by rw [← h5]; exact h3)]
theorem pst_cnt {s : Bk} (hg : BkGood s) (id day : Int) (ls : List Ln) : (isN s id day ls = true ∧ (pst s id day ls).1 = 0 ∧ 0 ≤ id ∧ id ≤ 9999 ∧ 0 ≤ day ∧ day ≤ 999 ∧ ls.length ≤ 4 ∧ (∀ l ∈ ls, 0 < l.1 ∧ l.1 < s.acs.length ∧ -1000000000000 ≤ l.2 ∧ l.2 ≤ 1000000000000) ∧ (pst s id day ls).2 = { s with txs := s.txs ++ [(id, day, ls)] } ∧ cnt (pst s id day ls).2 = cnt s + 1) ∨ (isN s id day ls = false ∧ (pst s id day ls).2 = s) := by
 by_cases hid : id < 0 ∨ 9999 < id
 ·have := pst_id (s := s) (day := day) (ls := ls) hid
  exact .inr ⟨isN_no (by rw [this]), by rw [this]⟩
 cases hfd : findT id s.txs with
 | some t =>
  have := pst_old (day := day) (ls := ls) hid hfd
  exact .inr ⟨isN_no (by rw [this]), by rw [this]⟩
 | none =>
  by_cases hd : day < 0 ∨ 999 < day
  ·have := pst_day (ls := ls) hid hfd hd
   exact .inr ⟨isN_no (by rw [this]), by rw [this]⟩
  by_cases hlz : lnsE s ls = 0
  ·by_cases h64 : 64 ≤ s.txs.length
   ·have := pst_full hid hfd hd hlz h64
    exact .inr ⟨isN_no (by rw [this]), by rw [this]⟩
   ·have hok := pst_ok hid hfd hd hlz h64
    have hl := lnsE_ok hg hlz
    exact .inl ⟨isN_yes (by rw [hok]), by rw [hok], by omega, by omega, by omega, by omega, hl.1, hl.2, by rw [hok], by rw [hok]; exact cnt_post⟩
  ·have := pst_bad hid hfd hd hlz
   exact .inr ⟨isN_no (by rw [this]), by rw [this]⟩
theorem LedAt.laid {w w2 : World} {B p u : Nat} {va vt vw vw' : Value} {tv : List (Tn × Value)} {ws : List Wr} {s : Bk} {x : ByteArray} (h : LedAt w B p va vt tv ⟨u, vw, ws⟩ s) (hc : u < cnt s) (hb : Blk w2 p #[va, vt, .int .i64 ((u + 1 : Nat) : Int), vw'] 102)
  (ho : w2.ownsRow B 153 2 vw' (ws.length + 1 + 1) (cellsW (ws ++ [((u : Int), x), (-1, ⟨#[]⟩)]))) (hf : FrT B [102, 153] w w2) : LedAt w2 B p va vt tv ⟨u + 1, vw', ws ++ [((u : Int), x), (-1, ⟨#[]⟩)]⟩ s :=
 ⟨hb, h.lo, oFrT h.acs hf (by decide), h.txs.frT hf (by decide) (by decide), h.jr, h.good, by simpa using ho, by have := h.dlen; simp at this ⊢; omega, hc⟩
theorem LinesAt.frTy {w w' : World} {B : Nat} {Ts : List TypeId} {v : Value} {ls : List Ln} (h : LinesAt w v ls) (hf : FrT B Ts w w') (ht : ∀ k, v.ownBlock = some k → Tg w k 89) (hn : 89 ∉ Ts) : LinesAt w' v ls := by
 obtain ⟨ao, cap, rfl, hr⟩ := h
 refine ⟨ao, cap, rfl, ?_⟩
 rcases hr with hr | ⟨b, off, rfl, hlt, hc⟩
 ·exact .inl hr
 ·obtain ⟨cs, fz, hg⟩ := ht b rfl
  have hb := hf.block b hlt (fun _ T hT ⟨ds, gz, h2⟩ => by rw [hg] at h2; simp at h2; exact hn (h2.2.1 ▸ hT))
  refine .inr ⟨b, off, rfl, Nat.lt_of_lt_of_le hlt hf.size, fun i l hl => ?_⟩
  have h1 : ∀ j, w'.cell? ⟨b, j, none⟩ = w.cell? ⟨b, j, none⟩ := fun j => World.cell?_of_block (a := ⟨b, j, none⟩) hb
  rw [h1, h1]
  exact hc i l hl
theorem LinesAt.nil (w : World) : LinesAt w (.slice none 0 0) [] := ⟨_, _, rfl, .inl rfl⟩
end Go.Proofs.YtdchbenfccofpaaGreatDoor
namespace Go.RowKit
structure FrX (X : Nat → Prop) (B : Nat) (Ts : List TypeId) (w w' : World) : Prop where
 fr : FrT B Ts w w'
 keep : ∀ k, X k → k < w.heap.size → w'.heap[k]? = w.heap[k]?
section
variable {X : Nat → Prop} {B : Nat} {Ts : List TypeId} {a b c w w' : World}
theorem FrX.refl (B : Nat) (Ts : List TypeId) (w : World) : FrX X B Ts w w := ⟨FrT.refl _ _ _, fun _ _ _ => rfl⟩
theorem FrX.trans (h : FrX X B Ts a b) (k : FrX X B Ts b c) : FrX X B Ts a c :=
 ⟨h.fr.trans k.fr, fun i hi hl => (k.keep i hi (Nat.lt_of_lt_of_le hl h.fr.size)).trans (h.keep i hi hl)⟩
theorem FrX.mono {Us : List TypeId} (h : FrX X B Ts a b) (hs : ∀ T ∈ Ts, T ∈ Us) : FrX X B Us a b := ⟨h.fr.mono hs, h.keep⟩
theorem FrX.of_below (h : Below a.heap.size a b) : FrX X B Ts a b := ⟨FrT.of_below h, fun k _ hk => h.block k hk⟩
theorem FrX.then (h : FrX X B Ts a b) (k : Below b.heap.size b c) : FrX X B Ts a c := h.trans (FrX.of_below k)
theorem FrX.drew (h : FrX X B Ts a b) : FrX X B Ts a b.drew := ⟨h.fr.drew, h.keep⟩
theorem FrX.alloc (h : FrX X B Ts a b) (o : Obj) : FrX X B Ts a (b.alloc o) := h.then ((Below.refl _ _).alloc (Nat.le_refl _) _)
theorem FrX.setCell (h : FrX X B Ts a b) {p : Addr} {T : TypeId} (hT : T ∈ Ts) (hg : Tg b p.block T) (hp : B ≤ p.block) (hx : ¬ X p.block) (u : Value) : FrX X B Ts a (b.setCell p u) :=
 h.trans ⟨(FrT.refl _ _ _).setCell hT hg hp u, fun k hk _ => Below.heap_setCell _ _ _ _ (by rintro rfl; exact hx hk)⟩
theorem FrX.grown {row : Option Nat} {T : TypeId} (h : FrX X B Ts a b) (hg : b.grownBy c row) (hT : T ∈ Ts) (hr : ∀ k, row = some k → B ≤ k ∧ Tg b k T) (hx : ∀ k, row = some k → ¬ X k) : FrX X B Ts a c :=
 h.trans ⟨(FrT.refl _ _ _).grown hg hT hr, fun k hk hl => hg.block k hl (fun e => hx k e.symm hk)⟩
end
end Go.RowKit
namespace Go.Proofs.YtdchbenfccofpaaGreatDoor
open Go.RowKit Db
structure LedAx (X : Nat → Prop) (w : World) (B p : Nat) (va vt : Value) (tv : List (Tn × Value)) (d : Dk) (s : Bk) : Prop extends LedAt w B p va vt tv d s where
 xp : ¬ X p
 xa : ∀ k, va.ownBlock = some k → ¬ X k
 xt : ∀ k, vt.ownBlock = some k → ¬ X k
 xw : ∀ k, d.vw.ownBlock = some k → ¬ X k
 top : ∀ k, X k → k < w.heap.size
def LedDx (X : Nat → Prop) (w : World) (B p : Nat) (d : Dk) (s : Bk) : Prop := ∃ va vt tv, LedAx X w B p va vt tv d s
def LedWx (X : Nat → Prop) (w : World) (B p u : Nat) (ws : List Wr) (s : Bk) : Prop := ∃ va vt tv vw, LedAx X w B p va vt tv ⟨u, vw, ws⟩ s
theorem LedDx.led {X : Nat → Prop} {w : World} {B p : Nat} {d : Dk} {s : Bk} (h : LedDx X w B p d s) : Led w B p s := by obtain ⟨va, vt, tv, h⟩ := h; exact ⟨va, vt, tv, d, h.toLedAt⟩
theorem LedAx.keptX {X : Nat → Prop} {w w' : World} {B p : Nat} {va vt : Value} {tv : List (Tn × Value)} {d : Dk} {s : Bk} (h : LedAx X w B p va vt tv d s) (hb : Below w.heap.size w w') : LedAx X w' B p va vt tv d s :=
 ⟨h.toLedAt.kept hb, h.xp, h.xa, h.xt, h.xw, fun k hk => Nat.lt_of_lt_of_le (h.top k hk) hb.size⟩
theorem LedAt.keptF {X : Nat → Prop} {w w' : World} {B B' p : Nat} {va vt : Value} {tv : List (Tn × Value)} {d : Dk} {s : Bk} (h : LedAt w B p va vt tv d s) (hf : FrX X B' tP w w') (hp : X p) (ha : ∀ k, va.ownBlock = some k → X k) (ht : ∀ k, vt.ownBlock = some k → X k) (hw : ∀ k, d.vw.ownBlock = some k → X k) : LedAt w' B p va vt tv d s := by
 have own : ∀ {e : TypeId} {size : Nat} {v : Value} {n : Nat} {xs : List Value}, w.ownsRow B e size v n xs → (∀ k, v.ownBlock = some k → X k) → w'.ownsRow B e size v n xs := by
  intro e size v n xs ho hx
  refine ⟨ho.1, ?_⟩
  rcases ho.2 with hn | ⟨g, cap, cur, rfl, hbg, hgg, rest⟩
  ·exact .inl hn
  ·refine .inr ⟨g, cap, cur, rfl, hbg, ?_, rest⟩
   rw [hf.keep g (hx g rfl) (Array.getElem?_eq_some_iff.1 hgg).1]
   exact hgg
 refine ⟨?_, h.lo, own h.acs ha, ⟨own h.txs.own ht, fun x hx => oFrT (h.txs.lns x hx) hf.fr (by decide)⟩, h.jr, h.good, own h.dsk hw, h.dlen, h.dcnt⟩
 have hl := h.blk.lt
 have hb := h.blk
 unfold Blk at hb ⊢
 rw [hf.keep p hp hl]; exact hb
theorem fresh_not {X : Nat → Prop} {w : World} {v v' : Value} {n : Nat} (top : ∀ k, X k → k < w.heap.size) (hx : ∀ k, v.ownBlock = some k → ¬ X k) (hn : w.heap.size ≤ n) (hat : v'.ownBlock = v.ownBlock ∨ v'.ownBlock = some n) : ∀ k, v'.ownBlock = some k → ¬ X k := by
 intro k hk hX
 rcases hat with e | e
 ·exact hx k (by rw [← e]; exact hk) hX
 ·rw [hk] at e
  simp only [Option.some.injEq] at e
  have := top k hX
  omega
theorem LedAx.more {X : Nat → Prop} {w w5 : World} {B p : Nat} {va va' vt : Value} {tv : List (Tn × Value)} {d : Dk} {s s' : Bk} (h : LedAx X w B p va vt tv d s) (o : Obj) (hgr : (w.alloc o).grownBy w5 va.ownBlock) (hblk : Blk w5 p #[va, vt, .int .i64 d.u, d.vw] 102)
  (hown : w5.ownsRow B 143 2 va' s'.acs.length (cellsA s'.acs)) (hs : s'.txs = s.txs) (hg : BkGood s') (hcn : cnt s ≤ cnt s') (hat : va'.ownBlock = va.ownBlock ∨ va'.ownBlock = some (w.alloc o).heap.size) :
  LedAx X (w5.setCell ⟨p, 0, none⟩ va') B p va' vt tv d s' ∧ FrX X B tP w (w5.setCell ⟨p, 0, none⟩ va') := by
 have f1 : FrX X B [143] w w5 := ((FrX.refl _ _ w).alloc o).grown hgr (T := 143) (by simp) (fun k hk => ⟨(oTg h.acs k hk).1, tg_alloc (oTg h.acs k hk).2 o⟩) h.xa
 have f2 : FrX X B [102] w5 (w5.setCell ⟨p, 0, none⟩ va') := (FrX.refl _ _ w5).setCell (T := 102) (by simp) hblk.tg h.lo h.xp _
 refine ⟨⟨⟨?_, h.lo, oFrT hown f2.fr (by decide), (h.txs.frT f1.fr (by decide) (by decide)).frT f2.fr (by decide) (by decide), by rw [hs]; exact h.jr, hg, oFrT (oFrT h.dsk f1.fr (by decide)) f2.fr (by decide), h.dlen, Nat.le_trans h.dcnt hcn⟩, h.xp, fresh_not h.top h.xa (by simp) hat, h.xt, h.xw, fun k hk => Nat.lt_of_lt_of_le (h.top k hk) (Nat.le_trans f1.fr.size f2.fr.size)⟩, ?_⟩
 ·have := hblk.set 0 va'
  simpa using this
 ·exact (f1.mono (by simp [tP])).trans (f2.mono (by simp [tP]))
theorem ledOpenX_any (X : Nat → Prop) (B p : Nat) (d : Dk) (s : Bk) (a : Int) (w : World) (h : LedDx X w B p d s) :
  Calls Tryz.prog 102 #[.pointer (some ⟨p, 0, none⟩), .int .i64 a] w fun e w' => e = .returned (.tuple #[.int .i64 (opn s a).1, .int .i64 (opn s a).2.1]) ∧ LedDx X w' B p d (opn s a).2.2 ∧ FrX X B tP w w' := by
 obtain ⟨va, vt, tv, h⟩ := h
 obtain ⟨ii, hi, hz0, hz1, hz2⟩ := info_parts info_account
 obtain ⟨g, cap, rfl, hg, hg'⟩ := oSome h.acs h.good.one
 have c0 := h.blk.cell 0
 have z0 := h.blk.frozen 0
 have hlp := h.blk.lt
 simp only [List.getElem?_toArray, List.getElem?_cons_zero] at c0
 have hfew := h.good.few
 have H := hI h
 by_cases hin : a < 0 ∨ (s.acs.length : Int) ≤ a
 ·have hr := opn_none (ther_no hin)
  rw [hr]
  clear h hr
  by_cases hneg : a < 0
  ·go_enter Tryz.func102, Tryz.ntmps102
   go_wp2_with fail
   go_ret2
   exact ⟨rfl, ⟨_, _, _, H.u⟩, FrX.refl _ _ _⟩
  ·have hge : (s.acs.length : Int) ≤ a := by omega
   go_enter Tryz.func102, Tryz.ntmps102
   go_wp2_with fail
   go_ret2
   exact ⟨rfl, ⟨_, _, _, H.u⟩, FrX.refl _ _ _⟩
 ·obtain ⟨k, rfl⟩ : ∃ k : Nat, a = k := ⟨a.toNat, by omega⟩
  have hk : k < s.acs.length := by omega
  obtain ⟨c, hc⟩ := acs_get hk
  have dd := oCell h.acs (j := k * 2 + 1) (two_get (fun a : Ac => Value.int .i64 a.1) (fun a => .bool a.2) s.acs k c hc).2
  have ht := ther_nat hk
  have hcl := clsd_at hc
  clear h hin
  cases hcc : c.2 with
  | true =>
   rw [hcc] at dd hcl
   rw [opn_shut ht hcl]
   clear ht hcl hc
   go_enter Tryz.func102, Tryz.ntmps102
   go_wp2_with fail
   go_ret2
   exact ⟨rfl, ⟨_, _, _, H.u⟩, FrX.refl _ _ _⟩
  | false =>
   rw [hcc] at dd hcl
   by_cases hf : 16 ≤ s.acs.length
   ·rw [opn_full ht hcl hf]
    clear ht hcl hc
    go_enter Tryz.func102, Tryz.ntmps102
    go_wp2_with fail
    go_ret2
    exact ⟨rfl, ⟨_, _, _, H.u⟩, FrX.refl _ _ _⟩
   ·have hok := opn_ok ht hcl hf
    have Hgood : Hid (BkGood { s with acs := s.acs ++ [((k : Int), false)] }) := by
     have := BkGood.opn H.u.good (k : Int)
     rw [hok] at this
     exact this
    rw [hok]
    clear ht hcl hc hok
    go_enter Tryz.func102, Tryz.ntmps102
    go_wp2_with (first
     | (at_builtin; refine wpList_append_own_at _ rfl (.tmp 33) (.tmp 36) 95 rfl B 143 ii (.agg #[.int .i64 0, .bool false]) 2 16 Tryz.underlying95 hi hz0 hz1 hz2 rfl (by decide) (.slice (some ⟨g, 0, none⟩) s.acs.length cap) s.acs.length _ rfl (H.u.acs.alloc _) ⟨w.heap.size, 0, none⟩ 1 1 [.int .i64 (k : Int), .bool false] rfl rfl (new2 _ _ (by simp) _ _ _) (fun x hx => by simp at hx; rcases hx with rfl | rfl <;> rfl) (by unfold maxLen; omega) (by omega) (by simp; omega) ?_; intro vq' w5 hown5 hgr5 _ hat5; obtain ⟨gf, cf, rfl, hgf, hgf'⟩ := oSome hown5 (Nat.succ_pos _); have hblk5 := (H.u.blk.alloc _).grown hgr5 (blk_own_ne H.u.blk H.u.acs (by decide)); have c5 := hblk5.cell 0; have z5 := hblk5.frozen 0; have l5 := hblk5.lt; simp only [List.getElem?_toArray, List.getElem?_cons_zero] at c5; have Hblk5 := hI hblk5; have Hown5 := hI hown5; have Hgr5 := hI hgr5; have Hat5 := hI hat5; clear hblk5 hown5 hgr5 hat5))
    go_ret2
    have hfin := H.u.more _ Hgr5.u Hblk5.u (s' := { s with acs := s.acs ++ [((k : Int), false)] }) (by simpa [cellsA] using Hown5.u) rfl Hgood.u (by rw [cnt_more H.u.good rfl]; omega) Hat5.u
    exact ⟨rfl, ⟨_, _, _, hfin.1⟩, hfin.2⟩
theorem LedAx.shut {X : Nat → Prop} {w : World} {B p g cap k : Nat} {vt : Value} {tv : List (Tn × Value)} {d : Dk} {s : Bk} {c : Ac} (h : LedAx X w B p (.slice (some ⟨g, 0, none⟩) s.acs.length cap) vt tv d s) (hc : s.acs[k]? = some c) (hg : BkGood { s with acs := s.acs.set k (c.1, true) }) (hcn : cnt s ≤ cnt { s with acs := s.acs.set k (c.1, true) }) :
  LedAx X (w.setCell ⟨g, k * 2 + 1, none⟩ (.bool true)) B p (.slice (some ⟨g, 0, none⟩) s.acs.length cap) vt tv d { s with acs := s.acs.set k (c.1, true) } ∧ FrX X B tP w (w.setCell ⟨g, k * 2 + 1, none⟩ (.bool true)) := by
 have ht := oTg h.acs g rfl
 have f1 : FrX X B [143] w (w.setCell ⟨g, k * 2 + 1, none⟩ (.bool true)) := (FrX.refl _ _ w).setCell (T := 143) (by simp) ht.2 ht.1 (h.xa g rfl) _
 refine ⟨⟨⟨h.blk.frT f1.fr (by decide), h.lo, ?_, h.txs.frT f1.fr (by decide) (by decide), h.jr, hg, oFrT h.dsk f1.fr (by decide), h.dlen, Nat.le_trans h.dcnt hcn⟩, h.xp, h.xa, h.xt, h.xw, fun k hk => Nat.lt_of_lt_of_le (h.top k hk) f1.fr.size⟩, f1.mono (by simp [tP])⟩
 simp only [List.length_set]
 rw [cellsA_shut hc]
 exact own_set h.acs _
theorem ledCloseX_any (X : Nat → Prop) (B p : Nat) (d : Dk) (s : Bk) (a : Int) (w : World) (h : LedDx X w B p d s) :
  Calls Tryz.prog 104 #[.pointer (some ⟨p, 0, none⟩), .int .i64 a] w fun e w' => e = .returned (.int .i64 (cls s a).1) ∧ LedDx X w' B p d (cls s a).2 ∧ FrX X B tP w w' := by
 have Hho := hI (hasOpen_any B p s a w h.led)
 have Hbal : Hid (∀ wx, Led wx B p s → Calls Tryz.prog 141 #[.pointer (some ⟨p, 0, none⟩), .int .i64 a, .int .i64 0, .int .i64 999] wx fun e w' => ∃ c, e = .returned (.agg #[.int .i64 (balT a s.txs), .int .i64 c]) ∧ Below wx.heap.size wx w') := by
  intro wx hx
  refine (alone_any B p s a 0 999 wx hx).mono ?_
  rintro e w1 ⟨rfl, hb⟩
  have hgood : BkGood s := by obtain ⟨_, _, _, h⟩ := h; exact h.good
  refine ⟨(aloneM s a 0 999).2, ?_, hb⟩
  rw [show (aloneM s a 0 999).1 = balT a s.txs from tkT_bal a s.txs (fun t ht => ⟨(hgood.tx t ht).2.2.1, (hgood.tx t ht).2.2.2.1⟩)]
 obtain ⟨va, vt, tv, h⟩ := h
 obtain ⟨g, cap, rfl, hg, hg'⟩ := oSome h.acs h.good.one
 have c0 := h.blk.cell 0
 have hlp := h.blk.lt
 simp only [List.getElem?_toArray, List.getElem?_cons_zero] at c0
 have hfew := h.good.few
 have H := hI h
 by_cases hin : a ≤ 0 ∨ (s.acs.length : Int) ≤ a
 ·rw [cls_none (by by_cases h0 : a = 0; exact .inr h0; exact .inl (ther_no (by omega)))]
  clear h
  by_cases hneg : a ≤ 0
  ·go_enter Tryz.func104, Tryz.ntmps104
   go_wp2_with fail
   go_ret
   exact ⟨rfl, ⟨_, _, _, H.u⟩, FrX.refl _ _ _⟩
  ·have hge : (s.acs.length : Int) ≤ a := by omega
   go_enter Tryz.func104, Tryz.ntmps104
   go_wp2_with fail
   go_ret
   exact ⟨rfl, ⟨_, _, _, H.u⟩, FrX.refl _ _ _⟩
 ·obtain ⟨k, rfl⟩ : ∃ k : Nat, a = k := ⟨a.toNat, by omega⟩
  have hk : k < s.acs.length := by omega
  have hk0 : ¬ (k : Int) = 0 := by omega
  obtain ⟨c, hc⟩ := acs_get hk
  have d := oCell h.acs (j := k * 2 + 1) (two_get (fun a : Ac => Value.int .i64 a.1) (fun a => .bool a.2) s.acs k c hc).2
  have ht := ther_nat hk
  have hcl := clsd_at hc
  have hle : ¬ (k : Int) ≤ 0 := by omega
  clear h hin
  cases hcc : c.2 with
  | true =>
   rw [hcc] at d hcl
   rw [cls_shut ht hk0 hcl]
   clear ht hcl hc
   go_enter Tryz.func104, Tryz.ntmps104
   go_wp2_with fail
   go_ret
   exact ⟨rfl, ⟨_, _, _, H.u⟩, FrX.refl _ _ _⟩
  | false =>
   rw [hcc] at d hcl
   cases ho : opb (k : Int) s.acs with
   | true =>
    rw [ho] at Hho
    rw [cls_open ht hk0 hcl ho]
    clear ht hcl hc ho
    go_enter Tryz.func104, Tryz.ntmps104
    go_wp2_with fail
    refine Hho.u.mono ?_
    rintro e w1 ⟨rfl, hb1⟩
    have Hb1 := hI hb1
    clear hb1
    go_wp2_with fail
    go_ret
    exact ⟨rfl, ⟨_, _, _, H.u.keptX Hb1.u⟩, FrX.of_below Hb1.u⟩
   | false =>
    rw [ho] at Hho
    by_cases hbal : balT (k : Int) s.txs = 0
    ·have hok := cls_ok ht hk0 hcl ho hbal hc
     have Hgood : Hid (BkGood { s with acs := s.acs.set k (c.1, true) }) := by
      have := BkGood.cls H.u.good (k : Int)
      rw [hok] at this
      exact this
     rw [hok]
     rw [hbal] at Hbal
     have Hc := hI hc
     clear ht hcl hc ho hok hbal
     go_enter Tryz.func104, Tryz.ntmps104
     go_wp2_with fail
     refine Hho.u.mono ?_
     rintro e w1 ⟨rfl, hb1⟩
     have H1 := hI (H.u.keptX hb1)
     have Hb1 := hI hb1
     clear hb1
     go_wp2_with fail
     refine (Hbal.u _ ⟨_, _, _, _, H1.u.toLedAt⟩).mono ?_
     rintro e w2 ⟨cc, rfl, hb2⟩
     have H2 := hI (H1.u.keptX hb2)
     have Hb2 := hI (Hb1.u.then hb2)
     have c2 := H2.u.blk.cell 0
     simp only [List.getElem?_toArray, List.getElem?_cons_zero] at c2
     have z2 := oFrozen H2.u.acs (k * 2 + 1)
     have d2 := oCell H2.u.acs (j := k * 2 + 1) (two_get (fun a : Ac => Value.int .i64 a.1) (fun a => .bool a.2) s.acs k c Hc.u).2
     have hgl : g < w2.heap.size := by have := Hb2.u.size; omega
     have hpl2 : p < w2.heap.size := by have := Hb2.u.size; omega
     clear hb2
     go_wp2_with fail
     go_ret
     have hfin := H2.u.shut Hc.u Hgood.u (by rw [cnt_shut Hc.u]; omega)
     have hal := (Below.refl _ (w2.setCell ⟨g, k * 2 + 1, none⟩ (.bool true))).alloc (Nat.le_refl _) (.cells #[.int .i64 0, .int .i64 cc] 213)
     exact ⟨rfl, ⟨_, _, _, hfin.1.keptX hal⟩, ((FrX.of_below Hb2.u).trans hfin.2).then hal⟩
    ·rw [cls_bal ht hk0 hcl ho hbal]
     obtain ⟨b, hb⟩ : ∃ b, balT (k : Int) s.txs = b := ⟨_, rfl⟩
     rw [hb] at Hbal hbal
     have hbe : (b == 0) = false := by simpa using hbal
     clear ht hcl hc ho hb
     go_enter Tryz.func104, Tryz.ntmps104
     go_wp2_with fail
     refine Hho.u.mono ?_
     rintro e w1 ⟨rfl, hb1⟩
     have H1 := hI (H.u.keptX hb1)
     have Hb1 := hI hb1
     clear hb1
     go_wp2_with fail
     refine (Hbal.u _ ⟨_, _, _, _, H1.u.toLedAt⟩).mono ?_
     rintro e w2 ⟨cc, rfl, hb2⟩
     have H2 := hI (H1.u.keptX hb2)
     have Hb2 := hI (Hb1.u.then hb2)
     clear hb2
     go_wp2_with fail
     go_ret
     have hal := (Below.refl _ w2).alloc (Nat.le_refl _) (.cells #[.int .i64 b, .int .i64 cc] 213)
     exact ⟨rfl, ⟨_, _, _, H2.u.keptX hal⟩, (FrX.of_below Hb2.u).then hal⟩
theorem LedAx.post {X : Nat → Prop} {w w5 : World} {B p : Nat} {va vt vt' v2 : Value} {tv : List (Tn × Value)} {d : Dk} {s s' : Bk} {t : Tn} (h : LedAx X w B p va vt tv d s) (o : Obj) (hv : w.ownsRow B 89 2 v2 t.2.2.length (cellsL t.2.2)) (hgr : (w.alloc o).grownBy w5 vt.ownBlock) (hblk : Blk w5 p #[va, vt, .int .i64 d.u, d.vw] 102)
  (hown : w5.ownsRow B 148 3 vt' (tv.length + 1) (cellsT (tv ++ [(t, v2)]))) (hs : s'.txs = s.txs ++ [t]) (ha : s'.acs = s.acs) (hg : BkGood s') (hcn : cnt s ≤ cnt s') (hat : vt'.ownBlock = vt.ownBlock ∨ vt'.ownBlock = some (w.alloc o).heap.size) :
  LedAx X (w5.setCell ⟨p, 1, none⟩ vt') B p va vt' (tv ++ [(t, v2)]) d s' ∧ FrX X B tP w (w5.setCell ⟨p, 1, none⟩ vt') := by
 have f1 : FrX X B [148] w w5 := ((FrX.refl _ _ w).alloc o).grown hgr (T := 148) (by simp) (fun k hk => ⟨(oTg h.txs.own k hk).1, tg_alloc (oTg h.txs.own k hk).2 o⟩) h.xt
 have f2 : FrX X B [102] w5 (w5.setCell ⟨p, 1, none⟩ vt') := (FrX.refl _ _ w5).setCell (T := 102) (by simp) hblk.tg h.lo h.xp _
 refine ⟨⟨⟨?_, h.lo, ?_, ⟨?_, ?_⟩, ?_, hg, oFrT (oFrT h.dsk f1.fr (by decide)) f2.fr (by decide), h.dlen, Nat.le_trans h.dcnt hcn⟩, h.xp, h.xa, fresh_not h.top h.xt (by simp) hat, h.xw, fun k hk => Nat.lt_of_lt_of_le (h.top k hk) (Nat.le_trans f1.fr.size f2.fr.size)⟩, (f1.mono (by simp [tP])).trans (f2.mono (by simp [tP]))⟩
 ·have := hblk.set 1 vt'
  simpa using this
 ·rw [ha]; exact oFrT (oFrT h.acs f1.fr (by decide)) f2.fr (by decide)
 ·have := oFrT hown f2.fr (by decide)
  simpa using this
 ·intro x hx
  rcases List.mem_append.1 hx with hx | hx
  ·exact oFrT (oFrT (h.txs.lns x hx) f1.fr (by decide)) f2.fr (by decide)
  ·simp only [List.mem_singleton] at hx
   subst hx
   exact oFrT (oFrT hv f1.fr (by decide)) f2.fr (by decide)
 ·rw [hs, ← h.jr]; simp
end Go.Proofs.YtdchbenfccofpaaGreatDoor
