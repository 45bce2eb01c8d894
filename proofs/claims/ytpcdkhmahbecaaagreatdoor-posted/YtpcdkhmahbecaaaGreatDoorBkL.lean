/- Walks of the books: the document's Close. -/
import Derived.Test.YtpcdkhmahbecaaaGreatDoorBkK
namespace Go.Proofs.YtpcdkhmahbecaaaGreatDoor
open Go.RowKit Db

theorem map_shut {l : List Ac} {k : Nat} {c : Ac} (h : l[k]? = some c) : ((l.set k (c.1, true)).map fun a => Value.int .i64 a.1) = l.map fun a => Value.int .i64 a.1 := by
  rw [List.map_set]
  apply List.ext_getElem?
  intro i
  rw [List.getElem?_set]
  by_cases hi : k = i
  · subst hi
    rw [if_pos rfl]
    have hl := (List.getElem?_eq_some_iff.1 h).1
    rw [if_pos (by simpa using hl), List.getElem?_map, h]; rfl
  · rw [if_neg hi]

theorem RefAt.shut {w : World} {B p g cap k : Nat} {vp vt : Value} {tv : List (Tn × Value)} {s : Bk} {c : Ac} (h : RefAt w B p vp (.slice (some ⟨g, 0, none⟩) s.acs.length cap) vt tv s) (hc : s.acs[k]? = some c) (hg : BkGood { s with acs := s.acs.set k (c.1, true) }) :
    RefAt (w.setCell ⟨g, k, none⟩ (.bool true)) B p vp (.slice (some ⟨g, 0, none⟩) s.acs.length cap) vt tv { s with acs := s.acs.set k (c.1, true) } ∧ FrT B tR w (w.setCell ⟨g, k, none⟩ (.bool true)) := by
  have ht := ownsRow_tg h.clo g rfl
  have f1 : FrT B [4] w (w.setCell ⟨g, k, none⟩ (.bool true)) := (FrT.refl _ _ w).setCell (T := 4) (by simp) ht.2 ht.1 _
  refine ⟨⟨h.blk.frT f1 (by decide), h.lo, ?_, ?_, h.txs.frT f1 (by decide) (by decide), h.jr, hg⟩, f1.mono (by simp [tR])⟩
  · simp only [List.length_set]
    rw [map_shut hc]
    exact ownsRow_frT h.par f1 (by decide)
  · simp only [List.length_set, List.map_set]
    exact own_set h.clo _

set_option maxRecDepth 100000 in
set_option maxHeartbeats 8000000 in
theorem refClose_any (B p : Nat) (s : Bk) (a : Int) (w : World) (h : Rfd w B p s) :
    Calls Tryz.prog 8 #[.pointer (some ⟨p, 0, none⟩), .int .i64 a] w fun e w' => e = .returned (.int .i64 (cls s a).1) ∧ Rfd w' B p (cls s a).2 ∧ FrT B tR w w' := by
  have Ht := hide (there_any B p s a w h)
  obtain ⟨vp, vc, vt, tv, h⟩ := h
  obtain ⟨g, cap, rfl, hg, hg'⟩ := ownsRow_some h.par h.good.one
  obtain ⟨g2, cap2, rfl, hg2, hg2'⟩ := ownsRow_some h.clo h.good.one
  obtain ⟨ao, cap3, rfl⟩ := ownsRow_form h.txs.own
  have c0 := h.blk.cell 0
  have c1 := h.blk.cell 1
  have c2 := h.blk.cell 2
  have hlp := h.blk.lt
  simp only [List.getElem?_toArray, List.getElem?_cons_zero, List.getElem?_cons_succ] at c0 c1 c2
  have hfew := h.good.few
  have H := hide h
  by_cases hin : a < 0 ∨ (s.acs.length : Int) ≤ a
  · have ht := ther_no hin
    rw [cls_none (.inl ht)]
    rw [ht] at Ht
    clear h ht
    go_enter Tryz.func8, Tryz.ntmps8
    go_wp2_with fail
    refine (unhide Ht).mono ?_
    rintro e w1 ⟨rfl, rfl⟩
    go_wp2_with fail
    go_ret
    exact ⟨rfl, ⟨_, _, _, _, unhide H⟩, FrT.refl _ _ _⟩
  by_cases ha0 : a = 0
  · subst ha0
    have ht : ther s 0 = true := ther_nat (k := 0) (by have := h.good.one; omega)
    rw [cls_none (.inr rfl)]
    rw [ht] at Ht
    clear h ht
    go_enter Tryz.func8, Tryz.ntmps8
    go_wp2_with fail
    refine (unhide Ht).mono ?_
    rintro e w1 ⟨rfl, rfl⟩
    go_wp2_with fail
    go_ret
    exact ⟨rfl, ⟨_, _, _, _, unhide H⟩, FrT.refl _ _ _⟩
  obtain ⟨k, rfl⟩ : ∃ k : Nat, a = k := ⟨a.toNat, by omega⟩
  have hk : k < s.acs.length := by omega
  obtain ⟨c, hc⟩ := acs_get hk
  have d := ownsRow_cell h.clo (j := k) (u := .bool c.2) (by rw [List.getElem?_map, hc]; rfl)
  have ht := ther_nat hk
  rw [ht] at Ht
  have hcl := clsd_at hc
  have hk0 : ((k : Int) == 0) = false := by simpa using ha0
  clear h hin
  cases hcc : c.2 with
  | true =>
    rw [hcc] at d hcl
    rw [cls_shut ht ha0 hcl]
    clear ht hcl hc
    go_enter Tryz.func8, Tryz.ntmps8
    go_wp2_with fail
    refine (unhide Ht).mono ?_
    rintro e w1 ⟨rfl, rfl⟩
    go_wp2_with fail
    go_ret
    exact ⟨rfl, ⟨_, _, _, _, unhide H⟩, FrT.refl _ _ _⟩
  | false =>
    rw [hcc] at d hcl
    have hlen : tv.length ≤ 64 := by have := (unhide H).good.posts; rw [← (unhide H).jr, List.length_map] at this; exact this
    have HTr := hide ht
    have Hcl := hide hcl
    have Hc := hide hc
    obtain ⟨r, hr⟩ : ∃ r, cls s (k : Int) = r := ⟨_, rfl⟩
    have Hr := hide hr
    rw [hr]
    clear ht hcl hc hr
    go_enter Tryz.func8, Tryz.ntmps8
    go_wp2_with fail
    refine (unhide Ht).mono ?_
    rintro e w1 ⟨rfl, rfl⟩
    go_wp2_with fail
    go_loopg [6] s.acs.length (fun m i wr => ∃ j : Nat, j ≤ s.acs.length ∧ m = s.acs.length - j ∧ i = .int .i64 j ∧ Hid (opb k (s.acs.drop j) = opb k s.acs) ∧ wr = w1)
    case atStart => exact ⟨0, by omega, rfl, rfl, rfl, rfl⟩
    case round =>
      obtain ⟨j, hj, rfl, rfl, Ho, rfl⟩ := hrel
      by_cases hlt : j < s.acs.length
      · obtain ⟨⟨cp, cc⟩, hcj⟩ := acs_get hlt
        have d1 := ownsRow_cell (unhide H).par (j := j) (u := .int .i64 cp) (by rw [List.getElem?_map, hcj]; rfl)
        have d2 := ownsRow_cell (unhide H).clo (j := j) (u := .bool cc) (by rw [List.getElem?_map, hcj]; rfl)
        have Hst := hide (opb_step (a := (k : Int)) hcj)
        simp only at Hst
        clear hcj
        by_cases hcp : cp = k
        · subst hcp
          cases cc with
          | true =>
            go_wp2_with fail
            go_roundg (s.acs.length - (j + 1))
            case measure => omega
            case rel => exact ⟨j + 1, by omega, rfl, by go_num, by show _ = _; rw [← unhide Ho, unhide Hst]; simp, rfl⟩
          | false =>
            have hrr : r = (9, s) := by rw [← unhide Hr]; exact cls_open (unhide HTr) ha0 (unhide Hcl) (by rw [← unhide Ho, unhide Hst]; simp)
            subst hrr
            go_wp2_with fail
            go_ret
            exact ⟨rfl, ⟨_, _, _, _, unhide H⟩, FrT.refl _ _ _⟩
        · have hne : (cp == (k : Int)) = false := by simpa using hcp
          go_wp2_with fail
          go_roundg (s.acs.length - (j + 1))
          case measure => omega
          case rel => exact ⟨j + 1, by omega, rfl, by go_num, by show _ = _; rw [← unhide Ho, unhide Hst, hne]; simp, rfl⟩
      · obtain rfl : j = s.acs.length := by omega
        have Hop : Hid (opb k s.acs = false) := by show _ = _; rw [← unhide Ho, List.drop_length]; rfl
        clear Ho hlt hj
        obtain ⟨W0, hW0⟩ : ∃ W0, W0 = wr := ⟨_, rfl⟩
        subst hW0
        go_wp2_with fail
        go_loopg [7, 8] tv.length (fun m v i wx => ∃ j : Nat, ∃ x : Int, j ≤ tv.length ∧ m = tv.length - j ∧ i = .int .i64 j ∧ v = .int .i64 x ∧ -(4000000000000 * (j : Int)) ≤ x ∧ x ≤ 4000000000000 * (j : Int) ∧ Hid (x + balT k (s.txs.drop j) = balT k s.txs) ∧ wx = W0)
        case atStart => exact ⟨0, 0, by omega, rfl, rfl, rfl, by omega, by omega, by show _ = _; simp, rfl⟩
        case round =>
          obtain ⟨j, x, hj, rfl, rfl, rfl, hx0, hx1, Ho, hW⟩ := hrel
          subst hW
          by_cases hlt : j < tv.length
          · obtain ⟨⟨t, v⟩, htj⟩ : ∃ t, tv[j]? = some t := ⟨tv[j], List.getElem?_eq_getElem hlt⟩
            obtain ⟨g3, _, e1, hg3, hg3'⟩ := ownsRow_some (unhide H).txs.own (by omega)
            simp only [Value.slice.injEq, true_and] at e1
            obtain ⟨rfl, rfl⟩ := e1
            have h3 := three_get (fun x : Tn × Value => Value.int .i64 x.1.1) (fun x => .int .i64 x.1.2.1) (fun x => x.2) tv j (t, v) htj
            have f2 := ownsRow_cell (unhide H).txs.own (j := j * 3 + 2) h3.2.2
            have hl := (unhide H).txs.lns _ (List.mem_of_getElem? htj)
            have hst : s.txs[j]? = some t := by rw [← (unhide H).jr, List.getElem?_map, htj]; rfl
            have hgt := (unhide H).good.tx t (List.mem_of_getElem? hst)
            have Hst := hide (balT_step (a := (k : Int)) hst)
            obtain ⟨ti, td, ls⟩ := t
            simp only at f2 hl hgt Hst
            obtain ⟨aol, capl, rfl⟩ := ownsRow_form hl
            have hl4 := hgt.2.2.2.2.1
            have Hlb := hide hgt.2.2.2.2.2
            have Hl := hide hl
            clear h3 hl hst hgt htj
            obtain ⟨W1, hW1⟩ : ∃ W1, W1 = wr := ⟨_, rfl⟩
            subst hW1
            go_wp2_with fail
            go_loopg [7, 9] ls.length (fun m v i wx => ∃ q : Nat, ∃ y : Int, q ≤ ls.length ∧ m = ls.length - q ∧ i = .int .i64 q ∧ v = .int .i64 y ∧ -(4000000000000 * (j : Int)) - 1000000000000 * (q : Int) ≤ y ∧ y ≤ 4000000000000 * (j : Int) + 1000000000000 * (q : Int) ∧ Hid (y + balL k (ls.drop q) = x + balL k ls) ∧ wx = W1)
            case atStart => exact ⟨0, x, by omega, rfl, rfl, rfl, by omega, by omega, by show _ = _; simp, rfl⟩
            case round =>
              obtain ⟨q, y, hq, rfl, rfl, rfl, hy0, hy1, Hy, hW⟩ := hrel
              subst hW
              by_cases hlt2 : q < ls.length
              · obtain ⟨⟨la, lm⟩, hlk⟩ : ∃ l, ls[q]? = some l := ⟨ls[q], List.getElem?_eq_getElem hlt2⟩
                obtain ⟨g4, _, e1, hg4, hg4'⟩ := ownsRow_some (unhide Hl) (by omega)
                simp only [Value.slice.injEq, true_and] at e1
                obtain ⟨rfl, rfl⟩ := e1
                have h2 := two_get (fun x : Ln => Value.int .i64 x.1) (fun x => .int .i64 x.2) ls q (la, lm) hlk
                have n0 := ownsRow_cell (unhide Hl) (j := q * 2) h2.1
                have n1 := ownsRow_cell (unhide Hl) (j := q * 2 + 1) h2.2
                have hb := unhide Hlb (la, lm) (List.mem_of_getElem? hlk)
                have Hs2 := hide (balL_step (a := (k : Int)) hlk)
                simp only at n0 n1 hb Hs2
                clear h2 hlk
                by_cases hla : la = k
                · subst hla
                  have hwr : IntKind.i64.wrap (y + lm) = y + lm := by rw [IntKind.wrap_i64]; omega
                  go_wp2_with fail
                  go_roundg (ls.length - (q + 1))
                  case measure => omega
                  case rel => exact ⟨q + 1, y + lm, by omega, rfl, by go_num, rfl, by omega, by omega, by show _ = _; have := unhide Hy; rw [unhide Hs2] at this; simp only [beq_self_eq_true, if_true] at this; omega, rfl⟩
                · have hne : (la == (k : Int)) = false := by simpa using hla
                  go_wp2_with fail
                  go_roundg (ls.length - (q + 1))
                  case measure => omega
                  case rel => exact ⟨q + 1, y, by omega, rfl, by go_num, rfl, by omega, by omega, by show _ = _; have := unhide Hy; rw [unhide Hs2, hne] at this; simpa using this, rfl⟩
              · obtain rfl : q = ls.length := by omega
                have hyy : y = x + balL k ls := by have := unhide Hy; rw [List.drop_length] at this; simpa [balL] using this
                have Ho2 : Hid (y + balT k (s.txs.drop (j + 1)) = balT k s.txs) := by
                  show _ = _
                  have := unhide Ho
                  rw [unhide Hst] at this
                  omega
                clear hyy
                go_wp2_with fail
                go_roundg (tv.length - (j + 1))
                case measure => omega
                case rel => exact ⟨j + 1, y, by omega, rfl, by go_num, rfl, by omega, by omega, unhide Ho2, rfl⟩
          · obtain rfl : j = tv.length := by omega
            have hxx : x = balT k s.txs := by
              have := unhide Ho
              rw [List.drop_of_length_le (by rw [← (unhide H).jr, List.length_map]; exact Nat.le_refl _)] at this
              simpa [balT] using this
            by_cases hx : x = 0
            · subst hx
              have hrr := (unhide Hr).symm.trans (cls_ok (unhide HTr) ha0 (unhide Hcl) (unhide Hop) hxx.symm (unhide Hc))
              have Hgood : Hid (BkGood { s with acs := s.acs.set k (c.1, true) }) := by
                have := BkGood.cls (unhide H).good (k : Int)
                rw [unhide Hr, hrr] at this
                exact this
              subst hrr
              have z2 := ownsRow_frozen (unhide H).clo k
              clear hxx
              go_wp2_with fail
              go_ret
              have hfin := (unhide H).shut (unhide Hc) (unhide Hgood)
              exact ⟨rfl, ⟨_, _, _, _, hfin.1⟩, hfin.2⟩
            · have hrr := (unhide Hr).symm.trans (cls_bal (unhide HTr) ha0 (unhide Hcl) (unhide Hop) (by rw [← hxx]; exact hx))
              subst hrr
              have hbe : (x == 0) = false := by simpa using hx
              clear hxx
              go_wp2_with fail
              go_ret
              exact ⟨rfl, ⟨_, _, _, _, unhide H⟩, FrT.refl _ _ _⟩

end Go.Proofs.YtpcdkhmahbecaaaGreatDoor
