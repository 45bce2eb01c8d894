/- Own texts of the theorem in YtdchbenfccofpaaGreatDoorWAlY, part 06. -/
import Derived.Test.YtdchbenfccofpaaGreatDoorJ05
import Derived.Test.YtdchbenfccofpaaGreatDoorJ01
import Derived.Test.YtdchbenfccofpaaGreatDoorJ04
import Derived.Deep.RegionHeld3
set_option maxRecDepth 100000
set_option maxHeartbeats 8000000
namespace Go.Proofs.YtdchbenfccofpaaGreatDoor
open Go.RowKit Db
theorem RefAx.shut {X : Nat → Prop} {w : World} {B p g cap k : Nat} {vp vt : Value} {tv : List (Tn × Value)} {s : Bk} {c : Ac} (h : RefAx X w B p vp (.slice (some ⟨g, 0, none⟩) s.acs.length cap) vt tv s) (hc : s.acs[k]? = some c) (hg : BkGood { s with acs := s.acs.set k (c.1, true) }) :
  RefAx X (w.setCell ⟨g, k, none⟩ (.bool true)) B p vp (.slice (some ⟨g, 0, none⟩) s.acs.length cap) vt tv { s with acs := s.acs.set k (c.1, true) } ∧ FrX X B tR w (w.setCell ⟨g, k, none⟩ (.bool true)) := by
 have ht := oTg h.clo g rfl
 have f1 : FrX X B [4] w (w.setCell ⟨g, k, none⟩ (.bool true)) := (FrX.refl _ _ w).setCell (T := 4) (by simp) ht.2 ht.1 (h.xc g rfl) _
 refine ⟨⟨⟨h.blk.frT f1.fr (by decide), h.lo, ?_, ?_, h.txs.frT f1.fr (by decide) (by decide), h.jr, hg⟩, h.xq, h.xp, h.xc, h.xt, fun k hk => Nat.lt_of_lt_of_le (h.top k hk) f1.fr.size⟩, f1.mono (by simp [tR])⟩
 ·simp only [List.length_set]
  rw [map_shut hc]
  exact oFrT h.par f1.fr (by decide)
 ·simp only [List.length_set, List.map_set]
  exact own_set h.clo _
theorem refCloseX_any (X : Nat → Prop) (B p : Nat) (s : Bk) (a : Int) (w : World) (h : Rfdx X w B p s) :
  Calls Tryz.prog 14 #[.pointer (some ⟨p, 0, none⟩), .int .i64 a] w fun e w' => e = .returned (.int .i64 (cls s a).1) ∧ Rfdx X w' B p (cls s a).2 ∧ FrX X B tR w w' := by
 have Ht := hI (there_any B p s a w h.rfd)
 obtain ⟨vp, vc, vt, tv, h⟩ := h
 obtain ⟨g, cap, rfl, hg, hg'⟩ := oSome h.par h.good.one
 obtain ⟨g2, cap2, rfl, hg2, hg2'⟩ := oSome h.clo h.good.one
 obtain ⟨ao, cap3, rfl⟩ := oForm h.txs.own
 have c0 := h.blk.cell 0
 have c1 := h.blk.cell 1
 have c2 := h.blk.cell 2
 have hlp := h.blk.lt
 simp only [List.getElem?_toArray, List.getElem?_cons_zero, List.getElem?_cons_succ] at c0 c1 c2
 have hfew := h.good.few
 have H := hI h
 by_cases hin : a < 0 ∨ (s.acs.length : Int) ≤ a
 ·have ht := ther_no hin
  rw [cls_none (.inl ht)]
  rw [ht] at Ht
  clear h ht
  go_enter Tryz.func14, Tryz.ntmps14
  go_wp2_with fail
  refine Ht.u.mono ?_
  rintro e w1 ⟨rfl, rfl⟩
  go_wp2_with fail
  go_ret
  exact ⟨rfl, ⟨_, _, _, _, H.u⟩, FrX.refl _ _ _⟩
 by_cases ha0 : a = 0
 ·subst ha0
  have ht : ther s 0 = true := ther_nat (k := 0) (by have := h.good.one; omega)
  rw [cls_none (.inr rfl)]
  rw [ht] at Ht
  clear h ht
  go_enter Tryz.func14, Tryz.ntmps14
  go_wp2_with fail
  refine Ht.u.mono ?_
  rintro e w1 ⟨rfl, rfl⟩
  go_wp2_with fail
  go_ret
  exact ⟨rfl, ⟨_, _, _, _, H.u⟩, FrX.refl _ _ _⟩
 obtain ⟨k, rfl⟩ : ∃ k : Nat, a = k := ⟨a.toNat, by omega⟩
 have hk : k < s.acs.length := by omega
 obtain ⟨c, hc⟩ := acs_get hk
 have d := oCell h.clo (j := k) (u := .bool c.2) (by rw [List.getElem?_map, hc]; rfl)
 have ht := ther_nat hk
 rw [ht] at Ht
 have hcl := clsd_at hc
 have hk0 : ((k : Int) == 0) = false := by simpa using ha0
 clear h hin
 cases hcc : c.2 with
 | true =>
  rw [hcc] at d hcl
  rw [cls_shut ht ha0 hcl]
  clear ht hcl hc
  go_enter Tryz.func14, Tryz.ntmps14
  go_wp2_with fail
  refine Ht.u.mono ?_
  rintro e w1 ⟨rfl, rfl⟩
  go_wp2_with fail
  go_ret
  exact ⟨rfl, ⟨_, _, _, _, H.u⟩, FrX.refl _ _ _⟩
 | false =>
  rw [hcc] at d hcl
  have hlen : tv.length ≤ 64 := by have := H.u.good.posts; rw [← H.u.jr, List.length_map] at this; exact this
  have HTr := hI ht
  have Hcl := hI hcl
  have Hc := hI hc
  obtain ⟨r, hr⟩ : ∃ r, cls s (k : Int) = r := ⟨_, rfl⟩
  have Hr := hI hr
  rw [hr]
  clear ht hcl hc hr
  go_enter Tryz.func14, Tryz.ntmps14
  go_wp2_with fail
  refine Ht.u.mono ?_
  rintro e w1 ⟨rfl, rfl⟩
  go_wp2_with fail
  go_loopg [6] s.acs.length (fun m i wr => ∃ j : Nat, j ≤ s.acs.length ∧ m = s.acs.length - j ∧ i = .int .i64 j ∧ Hid (opb k (s.acs.drop j) = opb k s.acs) ∧ wr = w1)
  case atStart => exact ⟨0, by omega, rfl, rfl, rfl, rfl⟩
  case round =>
   obtain ⟨j, hj, rfl, rfl, Ho, rfl⟩ := hrel
   by_cases hlt : j < s.acs.length
   ·obtain ⟨⟨cp, cc⟩, hcj⟩ := acs_get hlt
    have d1 := oCell H.u.par (j := j) (u := .int .i64 cp) (by rw [List.getElem?_map, hcj]; rfl)
    have d2 := oCell H.u.clo (j := j) (u := .bool cc) (by rw [List.getElem?_map, hcj]; rfl)
    have Hst := hI (opb_step (a := (k : Int)) hcj)
    simp only at Hst
    clear hcj
    by_cases hcp : cp = k
    ·subst hcp
     cases cc with
     | true =>
      go_wp2_with fail
      go_roundg (s.acs.length - (j + 1))
      case measure => omega
      case rel => exact ⟨j + 1, by omega, rfl, by go_num, by show _ = _; rw [← Ho.u, Hst.u]; simp, rfl⟩
     | false =>
      have hrr : r = (9, s) := by rw [← Hr.u]; exact cls_open HTr.u ha0 Hcl.u (by rw [← Ho.u, Hst.u]; simp)
      subst hrr
      go_wp2_with fail
      go_ret
      exact ⟨rfl, ⟨_, _, _, _, H.u⟩, FrX.refl _ _ _⟩
    ·have hne : (cp == (k : Int)) = false := by simpa using hcp
     go_wp2_with fail
     go_roundg (s.acs.length - (j + 1))
     case measure => omega
     case rel => exact ⟨j + 1, by omega, rfl, by go_num, by show _ = _; rw [← Ho.u, Hst.u, hne]; simp, rfl⟩
   ·obtain rfl : j = s.acs.length := by omega
    have Hop : Hid (opb k s.acs = false) := by show _ = _; rw [← Ho.u, List.drop_length]; rfl
    clear Ho hlt hj
    obtain ⟨W0, hW0⟩ : ∃ W0, W0 = wr := ⟨_, rfl⟩
    subst hW0
    go_wp2_with fail
    go_loopg [7, 8] tv.length (fun m v i wx => ∃ j : Nat, ∃ x : Int, j ≤ tv.length ∧ m = tv.length - j ∧ i = .int .i64 j ∧ v = .int .i64 x ∧ -(4000000000000 * (j : Int)) ≤ x ∧ x ≤ 4000000000000 * (j : Int) ∧ Hid (x + balT k (s.txs.drop j) = balT k s.txs) ∧ wx = W0)
    case atStart => exact ⟨0, 0, by omega, rfl, rfl, rfl, by omega, by omega, by show _ = _; simp, rfl⟩
    case round =>
     obtain ⟨j, x, hj, rfl, rfl, rfl, hx0, hx1, Ho, hW⟩ := hrel
     subst hW
     by_cases hlt : j < tv.length
     ·obtain ⟨⟨t, v⟩, htj⟩ : ∃ t, tv[j]? = some t := ⟨tv[j], List.getElem?_eq_getElem hlt⟩
      obtain ⟨g3, _, e1, hg3, hg3'⟩ := oSome H.u.txs.own (by omega)
      simp only [Value.slice.injEq, true_and] at e1
      obtain ⟨rfl, rfl⟩ := e1
      have h3 := three_get (fun x : Tn × Value => Value.int .i64 x.1.1) (fun x => .int .i64 x.1.2.1) (fun x => x.2) tv j (t, v) htj
      have f2 := oCell H.u.txs.own (j := j * 3 + 2) h3.2.2
      have hl := H.u.txs.lns _ (List.mem_of_getElem? htj)
      have hst : s.txs[j]? = some t := by rw [← H.u.jr, List.getElem?_map, htj]; rfl
      have hgt := H.u.good.tx t (List.mem_of_getElem? hst)
      have Hst := hI (balT_step (a := (k : Int)) hst)
      obtain ⟨ti, td, ls⟩ := t
      simp only at f2 hl hgt Hst
      obtain ⟨aol, capl, rfl⟩ := oForm hl
      have hl4 := hgt.2.2.2.2.1
      have Hlb := hI hgt.2.2.2.2.2
      have Hl := hI hl
      clear h3 hl hst hgt htj
      obtain ⟨W1, hW1⟩ : ∃ W1, W1 = wr := ⟨_, rfl⟩
      subst hW1
      go_wp2_with fail
      go_loopg [7, 9] ls.length (fun m v i wx => ∃ q : Nat, ∃ y : Int, q ≤ ls.length ∧ m = ls.length - q ∧ i = .int .i64 q ∧ v = .int .i64 y ∧ -(4000000000000 * (j : Int)) - 1000000000000 * (q : Int) ≤ y ∧ y ≤ 4000000000000 * (j : Int) + 1000000000000 * (q : Int) ∧ Hid (y + balL k (ls.drop q) = x + balL k ls) ∧ wx = W1)
      case atStart => exact ⟨0, x, by omega, rfl, rfl, rfl, by omega, by omega, by show _ = _; simp, rfl⟩
      case round =>
       obtain ⟨q, y, hq, rfl, rfl, rfl, hy0, hy1, Hy, hW⟩ := hrel
       subst hW
       by_cases hlt2 : q < ls.length
       ·obtain ⟨⟨la, lm⟩, hlk⟩ : ∃ l, ls[q]? = some l := ⟨ls[q], List.getElem?_eq_getElem hlt2⟩
        obtain ⟨g4, _, e1, hg4, hg4'⟩ := oSome Hl.u (by omega)
        simp only [Value.slice.injEq, true_and] at e1
        obtain ⟨rfl, rfl⟩ := e1
        have h2 := two_get (fun x : Ln => Value.int .i64 x.1) (fun x => .int .i64 x.2) ls q (la, lm) hlk
        have n0 := oCell Hl.u (j := q * 2) h2.1
        have n1 := oCell Hl.u (j := q * 2 + 1) h2.2
        have hb := Hlb.u (la, lm) (List.mem_of_getElem? hlk)
        have Hs2 := hI (balL_step (a := (k : Int)) hlk)
        simp only at n0 n1 hb Hs2
        clear h2 hlk
        by_cases hla : la = k
        ·subst hla
         have hwr : IntKind.i64.wrap (y + lm) = y + lm := by rw [IntKind.wrap_i64]; omega
         go_wp2_with fail
         go_roundg (ls.length - (q + 1))
         case measure => omega
         case rel => exact ⟨q + 1, y + lm, by omega, rfl, by go_num, rfl, by omega, by omega, by show _ = _; have := Hy.u; rw [Hs2.u] at this; simp only [beq_self_eq_true, if_true] at this; omega, rfl⟩
        ·have hne : (la == (k : Int)) = false := by simpa using hla
         go_wp2_with fail
         go_roundg (ls.length - (q + 1))
         case measure => omega
         case rel => exact ⟨q + 1, y, by omega, rfl, by go_num, rfl, by omega, by omega, by show _ = _; have := Hy.u; rw [Hs2.u, hne] at this; simpa using this, rfl⟩
       ·obtain rfl : q = ls.length := by omega
        have hyy : y = x + balL k ls := by have := Hy.u; rw [List.drop_length] at this; simpa [balL] using this
        have Ho2 : Hid (y + balT k (s.txs.drop (j + 1)) = balT k s.txs) := by
         show _ = _
         have := Ho.u
         rw [Hst.u] at this
         omega
        clear hyy
        go_wp2_with fail
        go_roundg (tv.length - (j + 1))
        case measure => omega
        case rel => exact ⟨j + 1, y, by omega, rfl, by go_num, rfl, by omega, by omega, Ho2.u, rfl⟩
     ·obtain rfl : j = tv.length := by omega
      have hxx : x = balT k s.txs := by
       have := Ho.u
       rw [List.drop_of_length_le (by rw [← H.u.jr, List.length_map]; exact Nat.le_refl _)] at this
       simpa [balT] using this
      by_cases hx : x = 0
      ·subst hx
       have hrr := Hr.u.symm.trans (cls_ok HTr.u ha0 Hcl.u Hop.u hxx.symm Hc.u)
       have Hgood : Hid (BkGood { s with acs := s.acs.set k (c.1, true) }) := by
        have := BkGood.cls H.u.good (k : Int)
        rw [Hr.u, hrr] at this
        exact this
       subst hrr
       have z2 := oFrozen H.u.clo k
       clear hxx
       go_wp2_with fail
       go_ret
       have hfin := H.u.shut Hc.u Hgood.u
       exact ⟨rfl, ⟨_, _, _, _, hfin.1⟩, hfin.2⟩
      ·have hrr := Hr.u.symm.trans (cls_bal HTr.u ha0 Hcl.u Hop.u (by rw [← hxx]; exact hx))
       subst hrr
       have hbe : (x == 0) = false := by simpa using hx
       clear hxx
       go_wp2_with fail
       go_ret
       exact ⟨rfl, ⟨_, _, _, _, H.u⟩, FrX.refl _ _ _⟩
theorem RefAx.post {X : Nat → Prop} {w w5 : World} {B p : Nat} {vp vc vt vt' v2 : Value} {tv : List (Tn × Value)} {s s' : Bk} {t : Tn} (h : RefAx X w B p vp vc vt tv s) (o : Obj) (hv : w.ownsRow B 89 2 v2 t.2.2.length (cellsL t.2.2)) (hgr : (w.alloc o).grownBy w5 vt.ownBlock) (hblk : Blk w5 p #[vp, vc, vt] 84)
  (hown : w5.ownsRow B 87 3 vt' (tv.length + 1) (cellsT (tv ++ [(t, v2)]))) (hs : s'.txs = s.txs ++ [t]) (ha : s'.acs = s.acs) (hg : BkGood s') (hat : vt'.ownBlock = vt.ownBlock ∨ vt'.ownBlock = some (w.alloc o).heap.size) :
  RefAx X (w5.setCell ⟨p, 2, none⟩ vt') B p vp vc vt' (tv ++ [(t, v2)]) s' ∧ FrX X B tR w (w5.setCell ⟨p, 2, none⟩ vt') := by
 have f1 : FrX X B [87] w w5 := ((FrX.refl _ _ w).alloc o).grown hgr (T := 87) (by simp) (fun k hk => ⟨(oTg h.txs.own k hk).1, tg_alloc (oTg h.txs.own k hk).2 o⟩) h.xt
 have f2 : FrX X B [84] w5 (w5.setCell ⟨p, 2, none⟩ vt') := (FrX.refl _ _ w5).setCell (T := 84) (by simp) hblk.tg h.lo h.xq _
 refine ⟨⟨⟨?_, h.lo, ?_, ?_, ⟨?_, ?_⟩, ?_, hg⟩, h.xq, h.xp, h.xc, fresh_not h.top h.xt (by simp) hat, fun k hk => Nat.lt_of_lt_of_le (h.top k hk) (Nat.le_trans f1.fr.size f2.fr.size)⟩, (f1.mono (by simp [tR])).trans (f2.mono (by simp [tR]))⟩
 ·have := hblk.set 2 vt'
  simpa using this
 ·rw [ha]; exact oFrT (oFrT h.par f1.fr (by decide)) f2.fr (by decide)
 ·rw [ha]; exact oFrT (oFrT h.clo f1.fr (by decide)) f2.fr (by decide)
 ·have := oFrT hown f2.fr (by decide)
  simpa using this
 ·intro x hx
  rcases List.mem_append.1 hx with hx | hx
  ·exact oFrT (oFrT (h.txs.lns x hx) f1.fr (by decide)) f2.fr (by decide)
  ·simp only [List.mem_singleton] at hx
   subst hx
   exact oFrT (oFrT hv f1.fr (by decide)) f2.fr (by decide)
 ·rw [hs, ← h.jr]; simp
theorem refPostX_any (X : Nat → Prop) (B p : Nat) (s : Bk) (id day : Int) (v : Value) (ls : List Ln) (w : World) (h : Rfdx X w B p s) (hl : LinesAt w v ls) :
  Calls Tryz.prog 15 #[.pointer (some ⟨p, 0, none⟩), .int .i64 id, .int .i64 day, v] w fun e w' => e = .returned (.int .i64 (pst s id day ls).1) ∧ Rfdx X w' B p (pst s id day ls).2 ∧ FrX X B tR w w' := by
 have Hold := hI (old_any B p s id day v ls w h.rfd hl)
 have Href := hI (fun (wx : World) (hb : Below w.heap.size w wx) (h : Rfd wx B p s) => refused_any B p s day v ls wx h (hl.kept hb))
 obtain ⟨vp, vc, vt, tv, h⟩ := h
 obtain ⟨ao, cap, rfl⟩ := hl.form
 obtain ⟨jj, hj, hy0, hy1, hy2⟩ := info_parts info_rtx
 have H := hI h
 have Hl := hI hl
 by_cases hid : id < 0 ∨ 9999 < id
 ·rw [pst_id hid]
  clear h hl
  by_cases hneg : id < 0
  ·go_enter Tryz.func15, Tryz.ntmps15
   go_wp2_with fail
   go_ret
   exact ⟨rfl, ⟨_, _, _, _, H.u⟩, FrX.refl _ _ _⟩
  ·have hgt : 9999 < id := by omega
   go_enter Tryz.func15, Tryz.ntmps15
   go_wp2_with fail
   go_ret
   exact ⟨rfl, ⟨_, _, _, _, H.u⟩, FrX.refl _ _ _⟩
 have h0 : ¬ id < 0 := by omega
 have h9 : ¬ 9999 < id := by omega
 clear h hl
 cases hfd : findT id s.txs with
 | some t =>
  rw [pst_old hid hfd]
  rw [oldE_some hfd] at Hold
  obtain ⟨x, hx⟩ : ∃ x, repE t.2.1 day t.2.2 ls = x := ⟨_, rfl⟩
  rw [hx] at Hold ⊢
  clear hx hfd
  simp only at Hold ⊢
  go_enter Tryz.func15, Tryz.ntmps15
  go_wp2_with fail
  refine Hold.u.mono ?_
  rintro e w1 ⟨rfl, hb1⟩
  have Hb1 := hI hb1
  clear hb1
  go_wp2_with fail
  go_ret
  exact ⟨rfl, ⟨_, _, _, _, H.u.keptX Hb1.u⟩, FrX.of_below Hb1.u⟩
 | none =>
  rw [oldE_none hfd] at Hold
  simp only at Hold
  by_cases hr : refE s day ls = 0
  ·obtain ⟨hd, hlz, h64⟩ := refE_zero hr
   have hok := pst_ok hid hfd hd hlz h64
   have Hgood : Hid (BkGood { s with txs := s.txs ++ [(id, day, ls)] }) := by
    have := BkGood.pst H.u.good id day ls
    rw [hok] at this
    exact this
   rw [hok]
   rw [hr] at Href
   have hjl : tv.length = s.txs.length := by rw [← H.u.jr, List.length_map]
   have h64' : tv.length < 64 := by omega
   have hl4 : ls.length ≤ 4 := (lnsE_ok H.u.good hlz).1
   have hl2 : 2 ≤ ls.length := by
    by_cases hx : ls.length < 2
    ·rw [lnsE_15 (.inl hx)] at hlz; simp at hlz
    ·omega
   obtain ⟨aot, capt, rfl⟩ := oForm H.u.txs.own
   obtain ⟨ao1, cap1, e1, hrr⟩ := Hl.u
   simp only [Value.slice.injEq, true_and] at e1
   obtain ⟨rfl, rfl⟩ := e1
   obtain ⟨b, off, rfl, hbl, hcs⟩ : ∃ b off, ao = some ⟨b, off, none⟩ ∧ b < w.heap.size ∧ ∀ (i : Nat) (l : Ln), ls[i]? = some l → w.cell? ⟨b, off + i * 2, none⟩ = some (.int .i64 l.1) ∧ w.cell? ⟨b, off + i * 2 + 1, none⟩ = some (.int .i64 l.2) := by
    rcases hrr with rfl | hr
    ·simp at hl2
    ·exact hr
   have Hcs := hI (lines_cells hcs)
   have hBp := H.u.lo
   have hpl := H.u.blk.lt
   have hmk := run_make2 ls.length (by omega)
   clear hfd hlz hjl h64 hok hrr hcs hr hd
   go_enter Tryz.func15, Tryz.ntmps15
   go_wp2_with fail
   refine Hold.u.mono ?_
   rintro e w1 ⟨rfl, hb1⟩
   have Hb1 := hI hb1
   clear hb1
   go_wp2_with fail
   refine (Href.u _ Hb1.u ⟨_, _, _, _, H.u.toRefAt.kept Hb1.u⟩).mono ?_
   rintro e w2 ⟨rfl, n, hw2⟩
   have Hb2 : Hid (Below w.heap.size w w2) := by rw [hw2]; exact Hb1.u.drewN n
   clear hw2
   have H2 := hI (H.u.keptX Hb2.u)
   have hsz2 := Hb2.u.size
   have Hcs2 : Hid (∀ j u, (cellsL ls)[j]? = some u → (w2.alloc (.cells (madeCells #[.int .i64 0, .int .i64 0] (ls.length * 2)) 89)).cell? ((⟨b, off, none⟩ : Addr).add j) = some u) := by
    intro j u hju
    rw [← Hcs.u j u hju, Addr.add_lit]
    exact (Hb2.u.alloc hsz2 _).cell (p := ⟨b, off + j, none⟩) hbl
   go_wp2_with (first
    | (refine wpList_copy2 rfl (.tmp 38) (.tmp 39) 31 31 rfl 89 Tryz.underlying31 size_line w2.heap.size ls.length ls.length (some ⟨b, off, none⟩) ls.length cap rfl rfl (madeCells #[.int .i64 0, .int .i64 0] (ls.length * 2)) 89 (heap_alloc_new _ _) (cellsL ls) (cellsL_length ls) (Nat.le_refl _) (.inr ⟨_, rfl, Hcs2.u⟩) (by rw [size_madeCells, cellsL_length]; exact Nat.le_refl _) (cellsL_one ls) ?_; intro w3 hg3 ho3 hs3 os3 tp3 ou3; have hown3 := own_copied (B := B) (w := w2) (by omega) hl4 hg3; have hb3 : Below w2.heap.size w2 w3 := ⟨os3, tp3, ou3, (by rw [hs3]; simp), (fun k hk => by rw [ho3 k (by omega)]; exact Below.heap_alloc _ _ _ hk)⟩; have H3 := hI (H2.u.keptX hb3); have c3 := H3.u.blk.cell 2; have z3 := H3.u.blk.frozen 2; have l3 := H3.u.blk.lt; simp only [List.getElem?_toArray, List.getElem?_cons_zero, List.getElem?_cons_succ] at c3; have Hown3 := hI hown3; have Hb3 := hI (Hb2.u.then hb3); have hsz3 := hb3.size; clear hown3 hb3 hg3 ho3 hs3 os3 tp3 ou3)
    | (at_builtin; refine wpList_append_own_at _ rfl (.tmp 45) (.tmp 50) 82 rfl B 87 jj (.agg #[.int .i64 0, .int .i64 0, .slice none 0 0]) 3 40 Tryz.underlying82 hj hy0 hy1 hy2 rfl (by decide) (.slice aot tv.length capt) tv.length _ rfl (H3.u.txs.own.alloc _) ⟨w3.heap.size, 0, none⟩ 1 1 [.int .i64 id, .int .i64 day, .slice (some ⟨w2.heap.size, 0, none⟩) ls.length ls.length] rfl rfl (new3 _ _ (by simp) _ _ _ _) (fun x hx => by simp at hx; rcases hx with rfl | rfl | rfl <;> rfl) (by unfold maxLen; omega) (by omega) (by simp; omega) ?_; intro vq' w5 hown5 hgr5 _ hat5; have Hat5 := hI hat5; clear hat5; obtain ⟨gf, cf, rfl, hgf, hgf'⟩ := oSome hown5 (Nat.succ_pos _); have hblk5 := (H3.u.blk.alloc _).grown hgr5 (blk_own_ne H3.u.blk H3.u.txs.own (by decide)); have c5 := hblk5.cell 2; have z5 := hblk5.frozen 2; have l5 := hblk5.lt; simp only [List.getElem?_toArray, List.getElem?_cons_zero, List.getElem?_cons_succ] at c5; have Hblk5 := hI hblk5; have Hown5 := hI hown5; have Hgr5 := hI hgr5; clear hblk5 hown5 hgr5))
   go_ret
   have hfin := H3.u.post _ (t := (id, day, ls)) Hown3.u Hgr5.u Hblk5.u (s' := { s with txs := s.txs ++ [(id, day, ls)] }) (by rw [cellsT_snoc]; exact Hown5.u) rfl rfl Hgood.u Hat5.u
   exact ⟨rfl, ⟨_, _, _, _, hfin.1⟩, (FrX.of_below Hb3.u).trans hfin.2⟩
  ·rw [pst_ref hid hfd hr]
   obtain ⟨x, hx⟩ : ∃ x, refE s day ls = x := ⟨_, rfl⟩
   rw [hx] at Href hr ⊢
   have hxe : (x == 0) = false := by simpa using hr
   clear hx hfd
   simp only
   go_enter Tryz.func15, Tryz.ntmps15
   go_wp2_with fail
   refine Hold.u.mono ?_
   rintro e w1 ⟨rfl, hb1⟩
   have Hb1 := hI hb1
   clear hb1
   go_wp2_with fail
   refine (Href.u _ Hb1.u ⟨_, _, _, _, H.u.toRefAt.kept Hb1.u⟩).mono ?_
   rintro e w2 ⟨rfl, n, hw2⟩
   have Hb2 : Hid (Below w.heap.size w w2) := by rw [hw2]; exact Hb1.u.drewN n
   clear hw2
   go_wp2_with fail
   go_ret
   exact ⟨rfl, ⟨_, _, _, _, H.u.keptX Hb2.u⟩, FrX.of_below Hb2.u⟩
end Go.Proofs.YtdchbenfccofpaaGreatDoor
namespace Db
def jn (sep : UInt8) : List (List UInt8) → List UInt8
 | [] => []
 | x :: r => x ++ r.flatMap (fun y => sep :: y)
theorem jn_one {sep : UInt8} {l : List (List UInt8)} {x : List UInt8} (h : l[0]? = some x) : jn sep (l.take 1) = x := by
 cases l with
 | nil => simp at h
 | cons y r => simp at h; subst h; simp [jn]
theorem jn_more {sep : UInt8} {l : List (List UInt8)} {i : Nat} {x : List UInt8} (hi : 0 < i) (h : l[i]? = some x) : jn sep (l.take (i + 1)) = jn sep (l.take i) ++ sep :: x := by
 cases l with
 | nil => simp at h
 | cons y r =>
  obtain ⟨k, rfl⟩ : ∃ k, i = k + 1 := ⟨i - 1, by omega⟩
  simp only [List.getElem?_cons_succ] at h
  simp only [List.take_succ_cons, jn]
  rw [List.take_add_one, h]
  simp
end Db
namespace Go.Proofs.YtdchbenfccofpaaGreatDoor
open Go.RowKit Db
def acT (c : Ac) : List UInt8 := Lib.itoa c.1 ++ (if c.2 then [120] else [])
def accL (s : Bk) : List (List UInt8) := (s.acs.drop 1).map acT
def accT (s : Bk) : List UInt8 := jn 44 (accL s)
theorem accL_get {s : Bk} {j : Nat} {c : Ac} (h : s.acs[j + 1]? = some c) : (accL s)[j]? = some (acT c) := by
 unfold accL; rw [List.getElem?_map, List.getElem?_drop, Nat.add_comm 1 j, h]; rfl
theorem accL_all {s : Bk} {u : List UInt8} (h : u = jn 44 ((accL s).take (s.acs.length - 1))) : u = accT s := by
 rw [h, List.take_of_length_le (by unfold accL; simp)]; rfl
theorem acc_step {s : Bk} {j : Nat} {c : Ac} (h : s.acs[j + 1]? = some c) {u t : List UInt8} (hu : u = jn 44 ((accL s).take j)) (ht : t = Lib.itoa c.1) :
  (j = 0 → u ++ t ++ (if c.2 then [120] else []) = jn 44 ((accL s).take (j + 1))) ∧ (0 < j → u ++ [44] ++ t ++ (if c.2 then [120] else []) = jn 44 ((accL s).take (j + 1))) := by
 have hm := accL_get h
 constructor
 ·rintro rfl
  rw [jn_one hm, hu, ht]; simp [jn, acT]
 ·intro hj
  rw [jn_more hj hm, hu, ht]; simp [acT]
theorem ledAccounts_any (B p : Nat) (s : Bk) (w : World) (h : Led w B p s) (ht : Tab w) :
  Calls Tryz.prog 48 #[.pointer (some ⟨p, 0, none⟩)] w fun e w' => ∃ u : ByteArray, e = .returned (.string u) ∧ L u = accT s ∧ Below w.heap.size w w' := by
 obtain ⟨va, vt, tv, dk, h⟩ := h
 obtain ⟨g, cap, rfl, hg, hg'⟩ := oSome h.acs h.good.one
 have c0 := h.blk.cell 0
 simp only [List.getElem?_toArray, List.getElem?_cons_zero] at c0
 have hfew := h.good.few
 have hone := h.good.one
 have H := hI h
 have Ht := hI ht
 clear h ht
 go_enter Tryz.func48, Tryz.ntmps48
 go_wp2_with fail
 go_loopg [3, 11] s.acs.length (fun m vu i wr => ∃ j : Nat, ∃ u : ByteArray, j ≤ s.acs.length ∧ m = s.acs.length - j ∧ i = .int .i64 j ∧ vu = .string u ∧ u.size ≤ 24 * j ∧ Hid (L u = jn 44 ((accL s).take (j - 1))) ∧ Hid (Below w.heap.size w wr))
 case atStart => exact ⟨0, ⟨#[]⟩, by omega, rfl, rfl, rfl, Nat.le_refl 0, rfl, Below.refl _ _⟩
 case round =>
  obtain ⟨j, u, hj, rfl, rfl, rfl, hus, Hu, Hb⟩ := hrel
  have hsz := Hb.u.size
  by_cases hlt : j < s.acs.length
  ·obtain ⟨c, hc⟩ := acs_get hlt
   have hro := oBelow H.u.acs Hb.u
   have d1 := oCell hro (j := j * 2) (two_get (fun a : Ac => Value.int .i64 a.1) (fun a => .bool a.2) s.acs j c hc).1
   have d2 := oCell hro (j := j * 2 + 1) (two_get (fun a : Ac => Value.int .i64 a.1) (fun a => .bool a.2) s.acs j c hc).2
   have hpar := H.u.good.par c (List.mem_of_getElem? hc)
   cases j with
   | zero =>
    obtain ⟨cp, cc⟩ := c
    simp only at d1 d2
    clear hro hc hpar
    go_wp2_with fail
    go_roundg (s.acs.length - (0 + 1))
    case measure => omega
    case rel => exact ⟨0 + 1, u, by omega, rfl, by go_num, rfl, by omega, Hu.u, Hb.u.alloc hsz _⟩
   | succ j =>
    have Hst := hI (fun t => acc_step (t := t) hc (by exact Hu.u))
    obtain ⟨cp, cc⟩ := c
    simp only at d1 d2 hpar Hst
    have hne : (((j + 1 : Nat) : Int) == 0) = false := by simp; omega
    clear hro hc
    by_cases hj0 : j = 0
    ·subst hj0
     go_wp2_with fail
     refine (itoa_any cp _ (by omega) (by omega) (Ht.u.below (by exact Hb.u.alloc hsz _))).mono ?_
     rintro e w3 ⟨t, rfl, ht, hb3⟩
     have htz : t.size ≤ 21 := itoa_size (by omega) (by omega) ht
     have Hb3 : Hid (Below w.heap.size w w3) := (Hb.u.alloc hsz _).then' (by simp; omega) hb3
     have k1 := hb3.cell (p := ⟨wr.heap.size, 1, none⟩) (by simp)
     simp at k1
     have Hn := hI ((Hst.u _ ht).1 (by simp))
     clear ht hb3
     cases cc with
     | true =>
      go_wp2_with fail
      go_roundg (s.acs.length - (0 + 1 + 1))
      case measure => omega
      case rel => exact ⟨0 + 1 + 1, u ++ t ++ ⟨#[120]⟩, by omega, rfl, by go_num, rfl, by rw [ByteArray.size_append, ByteArray.size_append]; show u.size + t.size + 1 ≤ _; omega, by show _ = _; rw [L_append, L_append]; exact Hn.u, Hb3.u⟩
     | false =>
      go_wp2_with fail
      go_roundg (s.acs.length - (0 + 1 + 1))
      case measure => omega
      case rel => exact ⟨0 + 1 + 1, u ++ t, by omega, rfl, by go_num, rfl, by rw [ByteArray.size_append]; omega, by show _ = _; rw [L_append]; simpa using Hn.u, Hb3.u⟩
    ·have hgt : decide ((1 : Int) < ((j + 1 : Nat) : Int)) = true := by simp; omega
     go_wp2_with fail
     refine (itoa_any cp _ (by omega) (by omega) (Ht.u.below (by exact Hb.u.alloc hsz _))).mono ?_
     rintro e w3 ⟨t, rfl, ht, hb3⟩
     have htz : t.size ≤ 21 := itoa_size (by omega) (by omega) ht
     have Hb3 : Hid (Below w.heap.size w w3) := (Hb.u.alloc hsz _).then' (by simp; omega) hb3
     have k1 := hb3.cell (p := ⟨wr.heap.size, 1, none⟩) (by simp)
     simp at k1
     have Hn := hI ((Hst.u _ ht).2 (by omega))
     clear ht hb3
     cases cc with
     | true =>
      go_wp2_with fail
      go_roundg (s.acs.length - (j + 1 + 1))
      case measure => omega
      case rel => exact ⟨j + 1 + 1, u ++ ⟨#[44]⟩ ++ t ++ ⟨#[120]⟩, by omega, rfl, by go_num, rfl, by rw [ByteArray.size_append, ByteArray.size_append, ByteArray.size_append]; show u.size + 1 + t.size + 1 ≤ _; omega, by show _ = _; rw [L_append, L_append, L_append]; exact Hn.u, Hb3.u⟩
     | false =>
      go_wp2_with fail
      go_roundg (s.acs.length - (j + 1 + 1))
      case measure => omega
      case rel => exact ⟨j + 1 + 1, u ++ ⟨#[44]⟩ ++ t, by omega, rfl, by go_num, rfl, by rw [ByteArray.size_append, ByteArray.size_append]; show u.size + 1 + t.size ≤ _; omega, by show _ = _; rw [L_append, L_append]; have := Hn.u; simpa [L] using this, Hb3.u⟩
  ·obtain rfl : j = s.acs.length := by omega
   go_wp2_with fail
   go_ret
   exact ⟨u, rfl, accL_all Hu.u, Hb.u⟩
theorem dayAccounts_any (B p : Nat) (s : Bk) (w : World) (h : Led w B p s) (ht : Tab w) :
  Calls Tryz.prog 18 #[.pointer (some ⟨p, 0, none⟩)] w fun e w' => ∃ u : ByteArray, e = .returned (.string u) ∧ L u = accT s ∧ Below w.heap.size w w' := by
 have Hc := hI (ledAccounts_any B p s w h ht)
 clear h ht
 go_enter Tryz.func18, Tryz.ntmps18
 go_wp2_with fail
 refine Hc.u.mono ?_
 rintro e w1 ⟨u, rfl, hu, hb⟩
 have Hu := hI hu
 have Hb := hI hb
 clear hu hb
 go_wp2_with fail
 go_ret
 exact ⟨u, rfl, Hu.u, Hb.u⟩
theorem refAccounts_any (B p : Nat) (s : Bk) (w : World) (h : Rfd w B p s) :
  Calls Tryz.prog 19 #[.pointer (some ⟨p, 0, none⟩)] w fun e w' => ∃ u : ByteArray, e = .returned (.string u) ∧ L u = accT s ∧ Below w.heap.size w w' := by
 obtain ⟨vp, vc, vt, tv, h⟩ := h
 obtain ⟨g, cap, rfl, hg, hg'⟩ := oSome h.par h.good.one
 obtain ⟨g2, cap2, rfl, hg2, hg2'⟩ := oSome h.clo h.good.one
 have hfew := h.good.few
 have hone := h.good.one
 have H := hI h
 clear h
 go_enter Tryz.func19, Tryz.ntmps19
 go_wp2_with fail
 go_loopg [3, 4] s.acs.length (fun m vu i wr => ∃ j : Nat, ∃ u : ByteArray, j + 1 ≤ s.acs.length ∧ m = s.acs.length - j ∧ i = .int .i64 ((j + 1 : Nat) : Int) ∧ vu = .string u ∧ u.size ≤ 24 * j ∧ Hid (L u = jn 44 ((accL s).take j)) ∧ Hid (Below w.heap.size w wr))
 case atStart => exact ⟨0, ⟨#[]⟩, by omega, by omega, rfl, rfl, Nat.le_refl 0, rfl, Below.refl _ _⟩
 case round =>
  obtain ⟨j, u, hj, rfl, rfl, rfl, hus, Hu, Hb⟩ := hrel
  have hsz := Hb.u.size
  have H1 := hI (H.u.kept Hb.u)
  have c0 := H1.u.blk.cell 0
  simp only [List.getElem?_toArray, List.getElem?_cons_zero] at c0
  by_cases hlt : j + 1 < s.acs.length
  ·obtain ⟨c, hc⟩ := acs_get hlt
   have d1 := oCell H1.u.par (j := j + 1) (u := .int .i64 c.1) (by rw [List.getElem?_map, hc]; rfl)
   have hpar := H.u.good.par c (List.mem_of_getElem? hc)
   have Hst := hI (fun t => acc_step (t := t) hc Hu.u)
   have Hcl := hI (fun (wx : World) (hb : Below w.heap.size w wx) => oCell (H.u.kept hb).clo (j := j + 1) (u := .bool c.2) (by rw [List.getElem?_map, hc]; rfl))
   obtain ⟨cp, cc⟩ := c
   simp only at d1 hpar Hst Hcl
   clear hc
   by_cases hj0 : j = 0
   ·subst hj0
    go_wp2_with fail
    refine (number10_any cp _ (by omega) (by omega)).mono ?_
    rintro e w3 ⟨t, rfl, ht, hb3⟩
    have htz : t.size ≤ 21 := itoa_size (by omega) (by omega) ht
    have Hb3 : Hid (Below w.heap.size w w3) := Hb.u.then' (by omega) hb3
    have d2 := Hcl.u _ Hb3.u
    have c3 := (H.u.kept Hb3.u).blk.cell 1
    simp only [List.getElem?_toArray, List.getElem?_cons_zero, List.getElem?_cons_succ] at c3
    have Hn := hI ((Hst.u _ ht).1 (by simp))
    clear ht hb3
    cases cc with
    | true =>
     go_wp2_with fail
     go_roundg (s.acs.length - (0 + 1))
     case measure => omega
     case rel => exact ⟨0 + 1, u ++ t ++ ⟨#[120]⟩, by omega, rfl, by go_num, rfl, by rw [ByteArray.size_append, ByteArray.size_append]; show u.size + t.size + 1 ≤ _; omega, by show _ = _; rw [L_append, L_append]; exact Hn.u, Hb3.u⟩
    | false =>
     go_wp2_with fail
     go_roundg (s.acs.length - (0 + 1))
     case measure => omega
     case rel => exact ⟨0 + 1, u ++ t, by omega, rfl, by go_num, rfl, by rw [ByteArray.size_append]; omega, by show _ = _; rw [L_append]; simpa using Hn.u, Hb3.u⟩
   ·have hgt : decide ((1 : Int) < ((j + 1 : Nat) : Int)) = true := by simp; omega
    go_wp2_with fail
    refine (number10_any cp _ (by omega) (by omega)).mono ?_
    rintro e w3 ⟨t, rfl, ht, hb3⟩
    have htz : t.size ≤ 21 := itoa_size (by omega) (by omega) ht
    have Hb3 : Hid (Below w.heap.size w w3) := Hb.u.then' (by omega) hb3
    have d2 := Hcl.u _ Hb3.u
    have c3 := (H.u.kept Hb3.u).blk.cell 1
    simp only [List.getElem?_toArray, List.getElem?_cons_zero, List.getElem?_cons_succ] at c3
    have Hn := hI ((Hst.u _ ht).2 (by omega))
    clear ht hb3
    cases cc with
    | true =>
     go_wp2_with fail
     go_roundg (s.acs.length - (j + 1))
     case measure => omega
     case rel => exact ⟨j + 1, u ++ ⟨#[44]⟩ ++ t ++ ⟨#[120]⟩, by omega, rfl, by go_num, rfl, by rw [ByteArray.size_append, ByteArray.size_append, ByteArray.size_append]; show u.size + 1 + t.size + 1 ≤ _; omega, by show _ = _; rw [L_append, L_append, L_append]; exact Hn.u, Hb3.u⟩
    | false =>
     go_wp2_with fail
     go_roundg (s.acs.length - (j + 1))
     case measure => omega
     case rel => exact ⟨j + 1, u ++ ⟨#[44]⟩ ++ t, by omega, rfl, by go_num, rfl, by rw [ByteArray.size_append, ByteArray.size_append]; show u.size + 1 + t.size ≤ _; omega, by show _ = _; rw [L_append, L_append]; have := Hn.u; simpa [L] using this, Hb3.u⟩
  ·obtain rfl : j = s.acs.length - 1 := by omega
   go_wp2_with fail
   go_ret
   exact ⟨u, rfl, accL_all Hu.u, Hb.u⟩
theorem made_zero (m : Nat) : (madeCells #[.int .i64 0, .int .i64 0] m).toList = List.replicate m (.int .i64 0) := by
 apply List.ext_getElem
 ·rw [Array.length_toList, size_madeCells, List.length_replicate]
 ·intro i h1 h2
  rw [List.getElem_replicate, Array.getElem_toList]
  simp only [madeCells, Array.getElem_map, Array.getElem_range]
  rcases Nat.mod_two_eq_zero_or_one i with h | h
  ·show (#[Value.int .i64 0, .int .i64 0])[i % 2]! = _
   rw [h]; rfl
  ·show (#[Value.int .i64 0, .int .i64 0])[i % 2]! = _
   rw [h]; rfl
def spare4 (a b c d : Int) : List Value := [.int .i64 a, .int .i64 b, .int .i64 c, .int .i64 d]
def hcells (ls : List Ln) : Array Value := (cellsL ls ++ spare4 77 0 0 77).toArray
theorem hcells_size (ls : List Ln) : (hcells ls).size = (ls.length + 2) * 2 := by simp [hcells, spare4, cellsL_length]; omega
theorem spare_get (ls : List Ln) (a b c d : Int) : (cellsL ls ++ spare4 a b c d).toArray[ls.length * 2]? = some (.int .i64 a) ∧ (cellsL ls ++ spare4 a b c d).toArray[ls.length * 2 + 1]? = some (.int .i64 b) ∧ (cellsL ls ++ spare4 a b c d).toArray[(ls.length + 1) * 2]? = some (.int .i64 c) ∧ (cellsL ls ++ spare4 a b c d).toArray[(ls.length + 1) * 2 + 1]? = some (.int .i64 d) := by
 have h := cellsL_length ls
 refine ⟨?_, ?_, ?_, ?_⟩ <;> (rw [List.getElem?_toArray, List.getElem?_append_right (by omega), h])
 ·rw [show ls.length * 2 - ls.length * 2 = 0 by omega]; rfl
 ·rw [show ls.length * 2 + 1 - ls.length * 2 = 1 by omega]; rfl
 ·rw [show (ls.length + 1) * 2 - ls.length * 2 = 2 by omega]; rfl
 ·rw [show (ls.length + 1) * 2 + 1 - ls.length * 2 = 3 by omega]; rfl
theorem spare_set (ls : List Ln) : ((((cellsL ls ++ spare4 0 0 0 0).toArray.setIfInBounds (ls.length * 2) (.int .i64 77)).setIfInBounds (ls.length * 2 + 1) (.int .i64 0)).setIfInBounds ((ls.length + 1) * 2) (.int .i64 0)).setIfInBounds ((ls.length + 1) * 2 + 1) (.int .i64 77) = hcells ls := by
 have h := cellsL_length ls
 apply Array.toList_inj.1
 simp only [Array.toList_setIfInBounds, hcells]
 have hs : ∀ (i : Nat) (l : List Value) (x : Value), (cellsL ls ++ l).set (ls.length * 2 + i) x = cellsL ls ++ l.set i x := by
  intro i l x
  rw [List.set_append_right _ _ (by omega), h, show ls.length * 2 + i - ls.length * 2 = i by omega]
 rw [show ls.length * 2 = ls.length * 2 + 0 from rfl, hs 0, show ls.length * 2 + 0 + 1 = ls.length * 2 + 1 from rfl, hs 1, show (ls.length + 1) * 2 = ls.length * 2 + 2 by omega, hs 2, show ls.length * 2 + 2 + 1 = ls.length * 2 + 3 from rfl, hs 3]
 rfl
theorem handed_copied {w w3 : World} {ls : List Ln} (hg3 : w3.heap[w.heap.size]? = some (.cells (cellsL ls ++ (madeCells #[.int .i64 0, .int .i64 0] ((ls.length + 2) * 2)).toList.drop (cellsL ls).length).toArray 89 (0, 0))) :
  Blk w3 w.heap.size (cellsL ls ++ spare4 0 0 0 0).toArray 89 := by
 unfold Blk
 rw [hg3, made_zero, cellsL_length, List.drop_replicate, show (ls.length + 2) * 2 - ls.length * 2 = 4 by omega]
 rfl
theorem LinesAt.of_handed {w : World} {g cap : Nat} {ls : List Ln} (h : Blk w g (hcells ls) 89) : LinesAt w (.slice (some ⟨g, 0, none⟩) ls.length cap) ls := by
 refine ⟨_, _, rfl, .inr ⟨g, 0, rfl, h.lt, fun i l hl => ?_⟩⟩
 have h2 := two_get (fun x : Ln => Value.int .i64 x.1) (fun x => .int .i64 x.2) ls i l hl
 have hi := (List.getElem?_eq_some_iff.1 hl).1
 have hlen := cellsL_length ls
 rw [Nat.zero_add, h.cell, h.cell]
 simp only [hcells, List.getElem?_toArray]
 rw [List.getElem?_append_left (by omega), List.getElem?_append_left (by omega)]
 exact h2
theorem handed_any (v : Value) (ls : List Ln) (w : World) (h : LinesAt w v ls) (hn : ls.length ≤ 8796093022000) :
  Calls Tryz.prog 121 #[v] w fun e w' => e = .returned (.slice (some ⟨w.heap.size, 0, none⟩) ls.length (ls.length + 2)) ∧ Blk w' w.heap.size (hcells ls) 89 ∧ Below w.heap.size w w' := by
 obtain ⟨ao, cap, rfl, hr⟩ := h
 have hmk : ∀ w : World, (Instr.makeSlice 31 (.int .i64 ((ls.length : Int) + 2)) (.int .i64 ((ls.length : Int) + 2))).run Tryz.prog w = .ok (.slice (some ⟨w.heap.size, 0, none⟩) (ls.length + 2) (ls.length + 2)) (w.alloc (.cells (madeCells #[.int .i64 0, .int .i64 0] ((ls.length + 2) * 2)) 89)) := by
  intro w
  have := run_make2 (ls.length + 2) (by omega) w
  rw [show (((ls.length + 2 : Nat)) : Int) = (ls.length : Int) + 2 by omega] at this
  exact this
 have hwr : IntKind.i64.wrap ((ls.length : Int) + 2) = (ls.length : Int) + 2 := by rw [IntKind.wrap_i64]; omega
 have hwr1 : IntKind.i64.wrap ((ls.length : Int) + 1) = (ls.length : Int) + 1 := by rw [IntKind.wrap_i64]; omega
 have Hsrc : Hid (ls.length = 0 ∨ ∃ ad', ao = some ad' ∧ ∀ j u, (cellsL ls)[j]? = some u → (w.alloc (.cells (madeCells #[.int .i64 0, .int .i64 0] ((ls.length + 2) * 2)) 89)).cell? (ad'.add j) = some u) := by
  rcases hr with rfl | ⟨b, off, rfl, hbl, hcs⟩
  ·exact .inl rfl
  ·refine .inr ⟨⟨b, off, none⟩, rfl, fun j u hju => ?_⟩
   rw [← lines_cells hcs j u hju, Addr.add_lit]
   exact ((Below.refl _ w).alloc (Nat.le_refl _) _).cell (p := ⟨b, off + j, none⟩) hbl
 have tq1 : ((ls.length : Int) + 1).toNat = ls.length + 1 := by omega
 have lq1 : (0 : Int) ≤ (ls.length : Int) + 1 := by omega
 have lq2 : (ls.length : Int) + 1 < (ls.length : Int) + 2 := by omega
 have lq3 : (ls.length : Int) < (ls.length : Int) + 2 := by omega
 clear hr
 go_enter Tryz.func121, Tryz.ntmps121
 go_upto_region 3 with fail
 go_upto_region 4 with (first
  | (refine wpList_copy2 rfl (.tmp 10) (.tmp 11) 31 31 rfl 89 Tryz.underlying31 (by kernel_rfl) w.heap.size (ls.length + 2) (ls.length + 2) ao ls.length cap rfl rfl (madeCells #[.int .i64 0, .int .i64 0] ((ls.length + 2) * 2)) 89 (heap_alloc_new _ _) (cellsL ls) (cellsL_length ls) (by omega) Hsrc.u (by rw [size_madeCells, cellsL_length]; omega) (cellsL_one ls) ?_; intro w3 hg3 ho3 hs3 os3 tp3 ou3; have HB3 := hI (handed_copied hg3); have Hb3 : Hid (Below w.heap.size w w3) := ⟨os3, tp3, ou3, (by rw [hs3]; simp), (fun k hk => by rw [ho3 k (by omega)]; exact Below.heap_alloc _ _ _ hk)⟩; have q0 := (HB3.u.cell (ls.length * 2)).trans (spare_get ls 0 0 0 0).1; have q1 := (HB3.u.cell (ls.length * 2 + 1)).trans (spare_get ls 0 0 0 0).2.1; have q2 := (HB3.u.cell ((ls.length + 1) * 2)).trans (spare_get ls 0 0 0 0).2.2.1; have q3 := (HB3.u.cell ((ls.length + 1) * 2 + 1)).trans (spare_get ls 0 0 0 0).2.2.2; have z0 := HB3.u.frozen (ls.length * 2); have z1 := HB3.u.frozen (ls.length * 2 + 1); have z2 := HB3.u.frozen ((ls.length + 1) * 2); have z3 := HB3.u.frozen ((ls.length + 1) * 2 + 1); clear hg3 ho3 hs3 os3 tp3 ou3))
 go_wp2_with fail
 go_ret
 refine ⟨rfl, ?_, ?_⟩
 ·have hb := (((HB3.u.set (ls.length * 2) (.int .i64 77)).set (ls.length * 2 + 1) (.int .i64 0)).set ((ls.length + 1) * 2) (.int .i64 0)).set ((ls.length + 1) * 2 + 1) (.int .i64 77)
  rw [spare_set] at hb
  exact hb
 ·exact (((Hb3.u.setCell (by simp) _).setCell (by simp) _).setCell (by simp) _).setCell (by simp) _
theorem still_any (g : Nat) (v : Value) (ls : List Ln) (w : World) (hg : Blk w g (hcells ls) 89) (h : LinesAt w v ls) (hn : ls.length ≤ 8796093022000) :
  Calls Tryz.prog 122 #[.slice (some ⟨g, 0, none⟩) ls.length (ls.length + 2), v] w fun e w' => e = .returned (.bool true) ∧ ∃ n, w' = w.drewN n := by
 have HG := hI (LinesAt.of_handed (cap := ls.length + 2) hg)
 have q0 := (hg.cell (ls.length * 2)).trans (spare_get ls 77 0 0 77).1
 have q1 := (hg.cell (ls.length * 2 + 1)).trans (spare_get ls 77 0 0 77).2.1
 have q2 := (hg.cell ((ls.length + 1) * 2)).trans (spare_get ls 77 0 0 77).2.2.1
 have q3 := (hg.cell ((ls.length + 1) * 2 + 1)).trans (spare_get ls 77 0 0 77).2.2.2
 obtain ⟨ao, cap, rfl⟩ := h.form
 have H := hI h
 have hwr : IntKind.i64.wrap ((ls.length : Int) + 2) = (ls.length : Int) + 2 := by rw [IntKind.wrap_i64]; omega
 have hwr1 : IntKind.i64.wrap ((ls.length : Int) + 1) = (ls.length : Int) + 1 := by rw [IntKind.wrap_i64]; omega
 have tq1 : ((ls.length : Int) + 1).toNat = ls.length + 1 := by omega
 have tq2 : ((ls.length : Int) + 2).toNat = ls.length + 2 := by omega
 have lq1 : (0 : Int) ≤ (ls.length : Int) + 1 := by omega
 have lq4 : (0 : Int) ≤ (ls.length : Int) + 2 := by omega
 have lq2 : (ls.length : Int) + 1 < (ls.length : Int) + 2 := by omega
 have lq3 : (ls.length : Int) < (ls.length : Int) + 2 := by omega
 clear hg h
 go_enter Tryz.func122, Tryz.ntmps122
 go_wp2_with fail
 go_loopg [6] ls.length (fun m i wr => ∃ j n : Nat, j ≤ ls.length ∧ m = ls.length - j ∧ i = .int .i64 j ∧ wr = w.drewN n)
 case atStart => exact ⟨0, 0, by omega, rfl, rfl, rfl⟩
 case round =>
  obtain ⟨j, n, hj, rfl, rfl, rfl⟩ := hrel
  by_cases hlt : j < ls.length
  ·obtain ⟨⟨la, lm⟩, hl⟩ : ∃ l, ls[j]? = some l := ⟨ls[j], List.getElem?_eq_getElem hlt⟩
   obtain ⟨_, b, off, e1, hbl, d1, d2⟩ := HG.u.line hl
   simp only [Option.some.injEq, Addr.mk.injEq, and_true] at e1
   obtain ⟨rfl, rfl⟩ := e1
   obtain ⟨_, b', off', rfl, hbl', f1, f2⟩ := H.u.line hl
   simp only [Nat.zero_add] at d1 d2 f1 f2
   clear hl
   go_upto_region 5 with fail
   go_quiet (fail)
   go_wp2_with fail
   go_roundg (ls.length - (j + 1))
   case measure => omega
   case rel => exact ⟨j + 1, _, by omega, rfl, by go_num, by first | rfl | exact (World.drewN_drewN _ _ _)⟩
  ·obtain rfl : j = ls.length := by omega
   go_wp2_with fail
   go_ret
   exact ⟨rfl, n, rfl⟩
theorem frm_set {w w' : World} {g i : Nat} (h : Frm w.heap.size (fun k => k = g) w w') (v : Value) : Frm w.heap.size (fun k => k = g) w (w'.setCell ⟨g, i, none⟩ v) := h.setCell (.inr rfl) v
theorem over_any (g n : Nat) (cs : Array Value) (w : World) (hg : Blk w g cs 89) (hs : cs.size = (n + 2) * 2) (hn : n ≤ 8796093022000) :
  Calls Tryz.prog 123 #[.slice (some ⟨g, 0, none⟩) n (n + 2)] w fun e w' => e = .returned (.tuple #[]) ∧ Frm w.heap.size (fun k => k = g) w w' := by
 have hwr : IntKind.i64.wrap ((n : Int) + 2) = (n : Int) + 2 := by rw [IntKind.wrap_i64]; omega
 have tq2 : ((n : Int) + 2).toNat = n + 2 := by omega
 have lq4 : (0 : Int) ≤ (n : Int) + 2 := by omega
 have Hg := hI hg
 have Hs := hI hs
 clear hg hs
 go_enter Tryz.func123, Tryz.ntmps123
 go_wp2_with fail
 go_loopg [3] (n + 2) (fun m i wr => ∃ j : Nat, ∃ ds : Array Value, j ≤ n + 2 ∧ m = n + 2 - j ∧ i = .int .i64 j ∧ Hid (Blk wr g ds 89) ∧ Hid (ds.size = (n + 2) * 2) ∧ Hid (Frm w.heap.size (fun k => k = g) w wr))
 case atStart => exact ⟨0, cs, by omega, rfl, rfl, Hg.u, Hs.u, Frm.refl _ _ _⟩
 case round =>
  obtain ⟨j, ds, hj, rfl, rfl, Hd, Hds, Hf⟩ := hrel
  by_cases hlt : j < n + 2
  ·have hlt' : (j : Int) < (n : Int) + 2 := by omega
   have hd := Hds.u
   have q0 := (Hd.u.cell (j * 2)).trans (Array.getElem?_eq_getElem (show j * 2 < ds.size by omega))
   have q1 := (Hd.u.cell (j * 2 + 1)).trans (Array.getElem?_eq_getElem (show j * 2 + 1 < ds.size by omega))
   have z0 := Hd.u.frozen (j * 2)
   have z1 := Hd.u.frozen (j * 2 + 1)
   obtain ⟨x0, hx0⟩ : ∃ x, ds[j * 2] = x := ⟨_, rfl⟩
   obtain ⟨x1, hx1⟩ : ∃ x, ds[j * 2 + 1] = x := ⟨_, rfl⟩
   rw [hx0] at q0
   rw [hx1] at q1
   clear hx0 hx1 hd
   go_wp2_with fail
   go_roundg (n + 2 - (j + 1))
   case measure => omega
   case rel => exact ⟨j + 1, _, by omega, rfl, by go_num, (Hd.u.set (j * 2) _).set (j * 2 + 1) _, by show _ = _; rw [Array.size_setIfInBounds, Array.size_setIfInBounds]; exact Hds.u, frm_set (frm_set Hf.u _) _⟩
  ·obtain rfl : j = n + 2 := by omega
   go_wp2_with fail
   go_end0
   exact ⟨rfl, Hf.u⟩
structure PairAt (w : World) (B q p c : Nat) (s : Bk) : Prop where
 blk : Blk w q #[.pointer (some ⟨p, 0, none⟩), .pointer (some ⟨c, 0, none⟩), .slice none 0 0, .slice none 0 0] 30
 led : Led w B p s
 rfd : Rfd w B c s
theorem PairAt.kept {w w' : World} {B q p c : Nat} {s : Bk} (h : PairAt w B q p c s) (hb : Below w.heap.size w w') : PairAt w' B q p c s := by
 obtain ⟨h1, ⟨va, vt, tv, dk, h2⟩, ⟨vp, vc, vu, tu, h3⟩⟩ := h
 exact ⟨h1.kept hb, ⟨_, _, _, _, h2.kept hb⟩, ⟨_, _, _, _, h3.kept hb⟩⟩
theorem Rfd.frT {w w' : World} {B B' p : Nat} {s : Bk} (h : Rfd w B p s) (hf : FrT B' tP w w') : Rfd w' B p s := by
 obtain ⟨vp, vc, vu, tu, h3⟩ := h
 exact ⟨_, _, _, _, h3.frT hf (by decide) (by decide)⟩
theorem Led.frT {w w' : World} {B B' p : Nat} {s : Bk} (h : Led w B p s) (hf : FrT B' tR w w') : Led w' B p s := by
 obtain ⟨va, vt, tv, dk, h3⟩ := h
 exact ⟨_, _, _, _, h3.frT hf (by decide) (by decide)⟩
def tAll : List TypeId := tP ++ tR
theorem below_drew (w : World) : Below w.heap.size w w.drew := ⟨rfl, rfl, rfl, Nat.le_refl _, fun _ _ => rfl⟩
theorem Led.drew {w : World} {B p : Nat} {s : Bk} (h : Led w B p s) : Led w.drew B p s := by
 obtain ⟨va, vt, tv, dk, h⟩ := h; exact ⟨_, _, _, _, h.kept (below_drew w)⟩
theorem Rfd.drew {w : World} {B p : Nat} {s : Bk} (h : Rfd w B p s) : Rfd w.drew B p s := by
 obtain ⟨vp, vc, vu, tu, h⟩ := h; exact ⟨_, _, _, _, h.kept (below_drew w)⟩
theorem ownsRow_block_lt {w : World} {base : Nat} {e : TypeId} {size : Nat} {v : Value} {n : Nat} {xs : List Value} (h : w.ownsRow base e size v n xs) : ∀ k, v.ownBlock = some k → k < w.heap.size := by
 intro k hk
 obtain ⟨_, cs, fz, hg⟩ := oTg h k hk
 exact (Array.getElem?_eq_some_iff.1 hg).1
theorem oOnly {w w' : World} {base g : Nat} {e : TypeId} {size : Nat} {v : Value} {n : Nat} {xs : List Value} (h : w.ownsRow base e size v n xs) (hf : Frm w.heap.size (fun k => k = g) w w') (hg : ∀ k, v.ownBlock = some k → k ≠ g) : w'.ownsRow base e size v n xs :=
 oFrm h hf (fun k hk => ⟨ownsRow_block_lt h k hk, hg k hk⟩)
theorem tg_ne {w : World} {k g : Nat} {T U : TypeId} (h : Tg w k T) (hg : Tg w g U) (hne : T ≠ U) : k ≠ g := by
 rintro rfl
 obtain ⟨cs, fz, h1⟩ := h
 obtain ⟨ds, gz, h2⟩ := hg
 rw [h1] at h2
 simp at h2
 exact hne h2.2.1
theorem LedAt.only {w w' : World} {B p g : Nat} {va vt : Value} {tv : List (Tn × Value)} {d : Dk} {s : Bk} (h : LedAt w B p va vt tv d s) (hf : Frm w.heap.size (fun k => k = g) w w') (hg : Tg w g 89) (hn : ∀ x ∈ tv, ∀ k, x.2.ownBlock = some k → k ≠ g) : LedAt w' B p va vt tv d s :=
 ⟨h.blk.frm hf h.blk.lt (tg_ne h.blk.tg hg (by decide)), h.lo, oOnly h.acs hf (fun k hk => tg_ne (oTg h.acs k hk).2 hg (by decide)),
  ⟨oOnly h.txs.own hf (fun k hk => tg_ne (oTg h.txs.own k hk).2 hg (by decide)), fun x hx => oOnly (h.txs.lns x hx) hf (hn x hx)⟩, h.jr, h.good, oOnly h.dsk hf (fun k hk => tg_ne (oTg h.dsk k hk).2 hg (by decide)), h.dlen, h.dcnt⟩
theorem RefAt.only {w w' : World} {B p g : Nat} {vp vc vt : Value} {tv : List (Tn × Value)} {s : Bk} (h : RefAt w B p vp vc vt tv s) (hf : Frm w.heap.size (fun k => k = g) w w') (hg : Tg w g 89) (hn : ∀ x ∈ tv, ∀ k, x.2.ownBlock = some k → k ≠ g) : RefAt w' B p vp vc vt tv s :=
 ⟨h.blk.frm hf h.blk.lt (tg_ne h.blk.tg hg (by decide)), h.lo, oOnly h.par hf (fun k hk => tg_ne (oTg h.par k hk).2 hg (by decide)), oOnly h.clo hf (fun k hk => tg_ne (oTg h.clo k hk).2 hg (by decide)),
  ⟨oOnly h.txs.own hf (fun k hk => tg_ne (oTg h.txs.own k hk).2 hg (by decide)), fun x hx => oOnly (h.txs.lns x hx) hf (hn x hx)⟩, h.jr, h.good⟩
theorem LinesAt.only {w w' : World} {g : Nat} {v : Value} {ls : List Ln} (h : LinesAt w v ls) (hf : Frm w.heap.size (fun k => k = g) w w') (hg : ls = [] ∨ ∀ k, v.ownBlock = some k → k ≠ g) : LinesAt w' v ls := by
 obtain ⟨ao, cap, rfl, hr⟩ := h
 refine ⟨ao, cap, rfl, ?_⟩
 rcases hg with hg | hg
 ·exact .inl hg
 rcases hr with hr | ⟨b, off, rfl, hlt, hc⟩
 ·exact .inl hr
 ·have hb := hf.block b hlt (hg b rfl)
  refine .inr ⟨b, off, rfl, Nat.lt_of_lt_of_le hlt hf.size, fun i l hl => ?_⟩
  have h1 : ∀ j, w'.cell? ⟨b, j, none⟩ = w.cell? ⟨b, j, none⟩ := fun j => World.cell?_of_block (a := ⟨b, j, none⟩) hb
  rw [h1, h1]
  exact hc i l hl
theorem LinesAt.frT {w w' : World} {B : Nat} {Ts : List TypeId} {v : Value} {ls : List Ln} (h : LinesAt w v ls) (hf : FrT B Ts w w') (hg : ls = [] ∨ ∀ k, v.ownBlock = some k → k < B) : LinesAt w' v ls := by
 obtain ⟨ao, cap, rfl, hr⟩ := h
 refine ⟨ao, cap, rfl, ?_⟩
 rcases hg with hg | hg
 ·exact .inl hg
 rcases hr with hr | ⟨b, off, rfl, hlt, hc⟩
 ·exact .inl hr
 ·have hb := hf.block b hlt (fun h => by have := hg b rfl; omega)
  refine .inr ⟨b, off, rfl, Nat.lt_of_lt_of_le hlt hf.size, fun i l hl => ?_⟩
  have h1 : ∀ j, w'.cell? ⟨b, j, none⟩ = w.cell? ⟨b, j, none⟩ := fun j => World.cell?_of_block (a := ⟨b, j, none⟩) hb
  rw [h1, h1]
  exact hc i l hl
end Go.Proofs.YtdchbenfccofpaaGreatDoor
