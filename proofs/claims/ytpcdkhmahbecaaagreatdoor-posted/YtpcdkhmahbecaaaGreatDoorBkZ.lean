/- Walks of the books: the document's Journal; Posted. -/
import Derived.Test.YtpcdkhmahbecaaaGreatDoorBkY
import Derived.Test.YtpcdkhmahbecaaaGreatDoorBkV
namespace Go.Proofs.YtpcdkhmahbecaaaGreatDoor
open Go.RowKit Db

set_option maxRecDepth 100000 in
set_option maxHeartbeats 4000000 in
theorem refJournal_any (B p : Nat) (s : Bk) (w : World) (h : Rfd w B p s) :
    Calls Tryz.prog 15 #[.pointer (some ⟨p, 0, none⟩)] w fun e w' => ∃ u : ByteArray, e = .returned (.string u) ∧ L u = jrT s ∧ Below w.heap.size w w' := by
  obtain ⟨vp, vc, vt, tv, h⟩ := h
  obtain ⟨ao, cap, rfl⟩ := ownsRow_form h.txs.own
  have hlen : tv.length ≤ 64 := by have := h.good.posts; rw [← h.jr, List.length_map] at this; exact this
  have Hjr := hide h.jr
  have H := hide h
  clear h
  go_enter Tryz.func15, Tryz.ntmps15
  go_wp2_with fail
  go_loopg [3, 4] tv.length (fun m vu i wr => ∃ j : Nat, ∃ u : ByteArray, j ≤ tv.length ∧ m = tv.length - j ∧ i = .int .i64 j ∧ vu = .string u ∧ u.size ≤ 230 * j ∧ Hid (L u = jn 59 ((jrL s).take j)) ∧ Hid (Below w.heap.size w wr))
  case atStart => exact ⟨0, ⟨#[]⟩, by omega, rfl, rfl, rfl, Nat.le_refl 0, rfl, Below.refl _ _⟩
  case round =>
    obtain ⟨j, u, hj, rfl, rfl, rfl, hus, Hu, Hb⟩ := hrel
    have hsz := (unhide Hb).size
    have H1 := hide ((unhide H).kept (unhide Hb))
    have c2 := (unhide H1).blk.cell 2
    simp only [List.getElem?_toArray, List.getElem?_cons_zero, List.getElem?_cons_succ] at c2
    by_cases hlt : j < tv.length
    · obtain ⟨⟨t, v⟩, htj⟩ : ∃ t, tv[j]? = some t := ⟨tv[j], List.getElem?_eq_getElem hlt⟩
      obtain ⟨g, _, e1, hg, hg'⟩ := ownsRow_some (unhide H1).txs.own (by omega)
      simp only [Value.slice.injEq, true_and] at e1
      obtain ⟨rfl, rfl⟩ := e1
      have h3 := three_get (fun x : Tn × Value => Value.int .i64 x.1.1) (fun x => .int .i64 x.1.2.1) (fun x => x.2) tv j (t, v) htj
      have d0 := ownsRow_cell (unhide H1).txs.own (j := j * 3) h3.1
      have d1 := ownsRow_cell (unhide H1).txs.own (j := j * 3 + 1) h3.2.1
      have d2 := ownsRow_cell (unhide H1).txs.own (j := j * 3 + 2) h3.2.2
      have hln := (unhide H1).txs.lns _ (List.mem_of_getElem? htj)
      have hst : s.txs[j]? = some t := by rw [← unhide Hjr, List.getElem?_map, htj]; rfl
      have hok := good_ok (unhide H).good (List.mem_of_getElem? hst)
      have Hst := hide (fun x => jr_step (x := x) hst (unhide Hu))
      obtain ⟨ti, td, ls⟩ := t
      obtain ⟨⟨i0, i1⟩, ⟨dd0, dd1⟩, h4, hlb⟩ := hok
      simp only at d0 d1 d2 hln i0 i1 dd0 dd1 h4 hlb
      obtain ⟨aol, capl, rfl⟩ := ownsRow_form hln
      have Hlb := hide hlb
      obtain ⟨W, hW⟩ : ∃ W, wr.alloc (.cells #[.int .i64 ti, .int .i64 td, .slice aol ls.length capl] 50) = W := ⟨_, rfl⟩
      obtain ⟨bx, hbx⟩ : ∃ bx, wr.heap.size = bx := ⟨_, rfl⟩
      have HB : Hid (Blk W bx #[.int .i64 ti, .int .i64 td, .slice aol ls.length capl] 50) := by rw [← hW, ← hbx]; exact Blk.new _ _ _
      have Hw : Hid (Below w.heap.size w W) := by rw [← hW]; exact (unhide Hb).alloc hsz _
      have HlW : Hid (LinesAt W (.slice aol ls.length capl) ls) := by rw [← hW]; exact (LinesAt.of_own hln).kept ((Below.refl _ _).alloc (Nat.le_refl _) _)
      have hWs : W.heap.size = bx + 1 := by rw [← hW, ← hbx]; simp
      have x0 := (unhide HB).cell 0
      simp only [List.getElem?_toArray, List.getElem?_cons_zero] at x0
      -- the text ahead: a ; or nothing
      obtain ⟨u1, hu1, hz1, Hst1⟩ : ∃ u1 : ByteArray, (u1 = if j = 0 then u else u ++ ⟨#[59]⟩) ∧ u1.size ≤ 230 * j + 1 ∧ Hid (∀ x, x = txT (ti, td, ls) → L u1 ++ x = jn 59 ((jrL s).take (j + 1))) := by
        by_cases hj0 : j = 0
        · exact ⟨u, by rw [if_pos hj0], by omega, fun x hx => (unhide Hst x hx).1 hj0⟩
        · refine ⟨u ++ ⟨#[59]⟩, by rw [if_neg hj0], by rw [ByteArray.size_append]; show u.size + 1 ≤ _; omega, fun x hx => ?_⟩
          rw [L_append]
          exact (unhide Hst x hx).2 (by omega)
      clear h3 hln hst htj hlb Hst
      have hcase : (decide (0 < j) = true ∧ u1 = u ++ ⟨#[59]⟩) ∨ (decide (0 < j) = false ∧ u1 = u) := by
        by_cases hj0 : j = 0
        · rw [if_pos hj0] at hu1; exact .inr ⟨by simp; omega, hu1⟩
        · rw [if_neg hj0] at hu1; exact .inl ⟨by simp; omega, hu1⟩
      clear hu1
      rcases hcase with ⟨hbb0, hu1⟩ | ⟨hbb0, hu1⟩
      all_goals
        go_wp2_with fail
        try rw [hW]
        try rw [← hu1]
        clear hu1
        refine (number10_any ti W (by omega) (by omega)).mono ?_
        rintro e w2 ⟨a, rfl, ha, hb2⟩
        have haz : a.size ≤ 21 := itoa_size (by omega) (by omega) ha
        have Hb2 := hide hb2
        have x1 := ((unhide HB).kept hb2).cell 1
        simp only [List.getElem?_toArray, List.getElem?_cons_zero, List.getElem?_cons_succ] at x1
        have Ha := hide ha
        clear ha hb2 x0
        go_wp2_with fail
        refine (number10_any td _ (by omega) (by omega)).mono ?_
        rintro e w3 ⟨b, rfl, hb, hb3⟩
        have hbz : b.size ≤ 21 := itoa_size (by omega) (by omega) hb
        have Hb3 := hide ((unhide Hb2).then hb3)
        have Hbb := hide hb
        clear hb hb3 x1
        go_wp2_with fail
        go_loopg [3, 8] ls.length (fun m vu i wx => ∃ q : Nat, ∃ y : ByteArray, q ≤ ls.length ∧ m = ls.length - q ∧ i = .int .i64 q ∧ vu = .string y ∧ y.size ≤ 230 * j + 44 + 44 * q ∧ Hid (L y = L u1 ++ prT ti td ++ lnT (ls.take q)) ∧ Hid (Below W.heap.size W wx))
        case atStart => exact ⟨0, u1 ++ a ++ ⟨#[58]⟩ ++ b, by omega, rfl, rfl, rfl, by rw [ByteArray.size_append, ByteArray.size_append, ByteArray.size_append]; show u1.size + a.size + 1 + b.size ≤ _; omega, by show _ = _; rw [L_append, L_append, L_append, unhide Ha, unhide Hbb]; simp [lnT, prT, L], unhide Hb3⟩
        case round =>
          obtain ⟨q, y, hq, rfl, rfl, rfl, hyz, Hy, Hb4⟩ := hrel
          have hsz4 := (unhide Hb4).size
          have HB4 := hide ((unhide HB).kept (unhide Hb4))
          have x2 := (unhide HB4).cell 2
          simp only [List.getElem?_toArray, List.getElem?_cons_zero, List.getElem?_cons_succ] at x2
          by_cases hlt2 : q < ls.length
          · obtain ⟨⟨la, lm⟩, hlj⟩ : ∃ l, ls[q]? = some l := ⟨ls[q], List.getElem?_eq_getElem hlt2⟩
            obtain ⟨_, bl, off, rfl, hbl, f1, f2⟩ := ((unhide HlW).kept (unhide Hb4)).line hlj
            have hbb := unhide Hlb _ (List.mem_of_getElem? hlj)
            have Hs2 := hide (lnT_step hlj)
            have Hf2 := hide (fun (wx : World) (hb : Below W.heap.size W wx) => (((unhide HlW).kept hb).line hlj))
            simp only at f1 f2 hbb Hs2
            clear hlj
            go_wp2_with fail
            refine (number10_any la _ (by omega) (by omega)).mono ?_
            rintro e w5 ⟨c, rfl, hc, hb5⟩
            have hcz : c.size ≤ 21 := itoa_size (by omega) (by omega) hc
            have Hb5 := hide ((unhide Hb4).then hb5)
            have x5 := ((unhide HB).kept (unhide Hb5)).cell 2
            simp only [List.getElem?_toArray, List.getElem?_cons_zero, List.getElem?_cons_succ] at x5
            obtain ⟨_, b5, off5, e5, _, _, f5⟩ := unhide Hf2 _ (unhide Hb5)
            simp only [Option.some.injEq, Addr.mk.injEq, and_true] at e5
            obtain ⟨rfl, rfl⟩ := e5
            have Hc := hide hc
            clear hc hb5 x2 f1 f2
            go_wp2_with fail
            refine (number10_any lm _ (by omega) (by omega)).mono ?_
            rintro e w6 ⟨d, rfl, hd, hb6⟩
            have hdz : d.size ≤ 21 := itoa_size (by omega) (by omega) hd
            have Hb6 := hide ((unhide Hb5).then hb6)
            have Hd := hide hd
            clear hd hb6 x5 f5
            go_wp2_with fail
            go_roundg (ls.length - (q + 1))
            case measure => omega
            case rel => exact ⟨q + 1, y ++ ⟨#[44]⟩ ++ c ++ ⟨#[58]⟩ ++ d, by omega, rfl, by go_num, rfl, by rw [ByteArray.size_append, ByteArray.size_append, ByteArray.size_append, ByteArray.size_append]; show y.size + 1 + c.size + 1 + d.size ≤ _; omega, by show _ = _; rw [L_append, L_append, L_append, L_append, unhide Hy, unhide Hc, unhide Hd, unhide Hs2]; simp [prT, L], unhide Hb6⟩
          · obtain rfl : q = ls.length := by omega
            have Hfin : Hid (L y = jn 59 ((jrL s).take (j + 1))) := by
              show _ = _
              rw [unhide Hy, List.take_length, List.append_assoc]
              exact unhide Hst1 _ rfl
            go_wp2_with fail
            go_roundg (tv.length - (j + 1))
            case measure => omega
            case rel => exact ⟨j + 1, y, by omega, rfl, by go_num, rfl, by omega, unhide Hfin, (unhide Hw).then' (by omega) (unhide Hb4)⟩
    · obtain rfl : j = tv.length := by omega
      go_wp2_with fail
      go_ret
      refine ⟨u, rfl, ?_, unhide Hb⟩
      rw [unhide Hu, List.take_of_length_le (by unfold jrL; rw [List.length_map, ← unhide Hjr, List.length_map]; exact Nat.le_refl _)]; rfl

set_option maxRecDepth 100000 in
set_option maxHeartbeats 4000000 in
theorem posted_walk (v : Value) (xs : List ActV) (w : World) (h : ActsAt w w.heap.size v xs) (hlen : xs.length ≤ 9223372036854775800) (ht : Tab w) :
    Calls Tryz.prog 5 #[v] w fun e w' => e = .returned (.bool true) ∧ Below w.heap.size w w' := by
  obtain ⟨ao, cap, rfl⟩ : ∃ ao cap, v = .slice ao xs.length cap := by obtain ⟨⟨ao, cap, rfl, _⟩, _⟩ := h; exact ⟨ao, cap, rfl⟩
  have H := hide h
  have Ht := hide ht
  clear h ht
  go_enter Tryz.func5, Tryz.ntmps5
  go_wp2_with fail
  refine (played_nil _).mono ?_
  rintro e w1 ⟨q, p, c, rfl, h1, hb1⟩
  have H1 := hide h1
  have Hb1 := hide hb1
  have c0 := h1.blk.cell 0
  simp only [List.getElem?_toArray, List.getElem?_cons_zero] at c0
  clear h1 hb1
  go_wp2_with fail
  refine (dayJournal_any w.heap.size p bk0 _ (unhide H1).led ((unhide Ht).below (unhide Hb1))).mono ?_
  rintro e w2 ⟨u, rfl, hu, hb2⟩
  have hu0 : u = ⟨#[]⟩ := L_inj (by rw [hu]; rfl)
  subst hu0
  have Hb2 := hide ((unhide Hb1).then hb2)
  have hsz2 := (unhide Hb2).size
  have HA : Hid (ActsAt w2 w2.heap.size (.slice ao xs.length cap) xs) := by
    have h2 := (unhide H).below (unhide Hb2)
    obtain ⟨⟨ao', cap', e1, hr⟩, ho⟩ := h2
    refine ⟨⟨ao', cap', e1, ?_⟩, fun x hx => ⟨(ho x hx).at', (ho x hx).lo.imp id (fun hh k hk => Nat.lt_of_lt_of_le (hh k hk) hsz2), (ho x hx).few⟩⟩
    rcases hr with hr | ⟨b, off, ha, hbl, hc⟩
    · exact .inl hr
    · exact .inr ⟨b, off, ha, Nat.lt_of_lt_of_le hbl hsz2, hc⟩
  clear hu hb2
  go_wp2_with fail
  refine (played_any _ xs 3 3 _ (unhide HA) rfl rfl hlen).mono ?_
  rintro e w3 ⟨q3, p3, c3, rfl, h3, hb3⟩
  have H3 := hide h3
  have Hb3 := hide ((unhide Hb2).then hb3)
  have d0 := h3.blk.cell 0
  simp only [List.getElem?_toArray, List.getElem?_cons_zero] at d0
  clear h3 hb3
  go_wp2_with fail
  refine (dayJournal_any w2.heap.size p3 (run bk0 xs) _ (unhide H3).led ((unhide Ht).below (unhide Hb3))).mono ?_
  rintro e w4 ⟨u, rfl, hu, hb4⟩
  have H4 := hide ((unhide H3).kept hb4)
  have Hb4 := hide ((unhide Hb3).then hb4)
  have d1 := (unhide H4).blk.cell 1
  simp only [List.getElem?_toArray, List.getElem?_cons_zero, List.getElem?_cons_succ] at d1
  have Hu := hide hu
  clear hu hb4
  go_wp2_with fail
  refine (refJournal_any w2.heap.size c3 (run bk0 xs) _ (unhide H4).rfd).mono ?_
  rintro e w5 ⟨u', rfl, hu', hb5⟩
  obtain rfl : u' = u := L_inj (hu'.trans (unhide Hu).symm)
  have Hb5 := hide ((unhide Hb4).then hb5)
  clear hu' hb5
  go_wp2_with fail
  go_ret
  exact ⟨rfl, unhide Hb5⟩

end Go.Proofs.YtpcdkhmahbecaaaGreatDoor
