/- Walks of the books: the document's Open. -/
import Derived.Test.YtpcdkhmahbecaaaGreatDoorBkC
namespace Go.Proofs.YtpcdkhmahbecaaaGreatDoor
open Go.RowKit Db

theorem retB' {a b : Bool} (h : a = b) : Ending.returned (.bool a) = .returned (.bool b) := by rw [h]

set_option maxHeartbeats 1000000 in
theorem there_any (B p : Nat) (s : Bk) (a : Int) (w : World) (h : Rfd w B p s) :
    Calls Tryz.prog 16 #[.pointer (some ⟨p, 0, none⟩), .int .i64 a] w fun e w' => e = .returned (.bool (ther s a)) ∧ w' = w := by
  obtain ⟨vp, vc, vt, tv, h⟩ := h
  obtain ⟨g, cap, rfl, hg, hg'⟩ := ownsRow_some h.par h.good.one
  have c0 := h.blk.cell 0
  simp only [List.getElem?_toArray, List.getElem?_cons_zero] at c0
  clear h
  by_cases hneg : 0 ≤ a
  · by_cases hlt : a < s.acs.length
    · go_enter Tryz.func16, Tryz.ntmps16
      go_wp2_with fail
      go_ret
      exact ⟨retB' (by unfold ther; simp [hneg, hlt]), rfl⟩
    · go_enter Tryz.func16, Tryz.ntmps16
      go_wp2_with fail
      go_ret
      exact ⟨retB' (by unfold ther; simp [hneg, hlt]), rfl⟩
  · go_enter Tryz.func16, Tryz.ntmps16
    go_wp2_with fail
    go_ret
    exact ⟨retB' (ther_no (.inl (by omega))).symm, rfl⟩

/-- One account more. -/
theorem RefAt.more {w w5 w6 : World} {B p : Nat} {vp vp' vc vc' vt : Value} {tv : List (Tn × Value)} {s s' : Bk} (h : RefAt w B p vp vc vt tv s) (o o2 : Obj) (hgr : (w.alloc o).grownBy w5 vp.ownBlock) (hblk : Blk w5 p #[vp, vc, vt] 47)
    (hown : w5.ownsRow B 3 1 vp' s'.acs.length (s'.acs.map fun a => .int .i64 a.1))
    (hgr2 : ((w5.setCell ⟨p, 0, none⟩ vp').alloc o2).grownBy w6 vc.ownBlock) (hblk2 : Blk w6 p #[vp', vc, vt] 47)
    (hown2 : w6.ownsRow B 4 1 vc' s'.acs.length (s'.acs.map fun a => .bool a.2)) (hs : s'.txs = s.txs) (hg : BkGood s') :
    RefAt (w6.setCell ⟨p, 1, none⟩ vc') B p vp' vc' vt tv s' ∧ FrT B tR w (w6.setCell ⟨p, 1, none⟩ vc') := by
  have f1 : FrT B [3] w w5 := ((FrT.refl _ _ w).alloc o).grown hgr (T := 3) (by simp) (fun k hk => ⟨(ownsRow_tg h.par k hk).1, tg_alloc (ownsRow_tg h.par k hk).2 o⟩)
  have f2 : FrT B [47] w5 (w5.setCell ⟨p, 0, none⟩ vp') := (FrT.refl _ _ w5).setCell (T := 47) (by simp) hblk.tg h.lo _
  have hc : (w5.setCell ⟨p, 0, none⟩ vp').ownsRow B 4 1 vc s.acs.length (s.acs.map fun a => .bool a.2) := ownsRow_frT (ownsRow_frT h.clo f1 (by decide)) f2 (by decide)
  have f3 : FrT B [4] (w5.setCell ⟨p, 0, none⟩ vp') w6 := ((FrT.refl _ _ _).alloc o2).grown hgr2 (T := 4) (by simp) (fun k hk => ⟨(ownsRow_tg hc k hk).1, tg_alloc (ownsRow_tg hc k hk).2 o2⟩)
  have f4 : FrT B [47] w6 (w6.setCell ⟨p, 1, none⟩ vc') := (FrT.refl _ _ w6).setCell (T := 47) (by simp) hblk2.tg h.lo _
  refine ⟨⟨?_, h.lo, ownsRow_frT (ownsRow_frT (ownsRow_frT hown f2 (by decide)) f3 (by decide)) f4 (by decide), ownsRow_frT hown2 f4 (by decide), (((h.txs.frT f1 (by decide) (by decide)).frT f2 (by decide) (by decide)).frT f3 (by decide) (by decide)).frT f4 (by decide) (by decide), by rw [hs]; exact h.jr, hg⟩, ?_⟩
  · have := hblk2.set 1 vc'
    simpa using this
  · exact (((f1.mono (by simp [tR])).trans (f2.mono (by simp [tR]))).trans (f3.mono (by simp [tR]))).trans (f4.mono (by simp [tR]))

set_option maxRecDepth 100000 in
set_option maxHeartbeats 2000000 in
theorem refOpen_any (B p : Nat) (s : Bk) (a : Int) (w : World) (h : Rfd w B p s) :
    Calls Tryz.prog 7 #[.pointer (some ⟨p, 0, none⟩), .int .i64 a] w fun e w' => e = .returned (.tuple #[.int .i64 (opn s a).1, .int .i64 (opn s a).2.1]) ∧ Rfd w' B p (opn s a).2.2 ∧ FrT B tR w w' := by
  have Ht := hide (there_any B p s a w h)
  obtain ⟨vp, vc, vt, tv, h⟩ := h
  obtain ⟨ii, hi, hz0, hz1, hz2⟩ := info_parts infoInt
  obtain ⟨jj, hj, hy0, hy1, hy2⟩ := info_parts infoBool
  obtain ⟨g, cap, rfl, hg, hg'⟩ := ownsRow_some h.par h.good.one
  obtain ⟨g2, cap2, rfl, hg2, hg2'⟩ := ownsRow_some h.clo h.good.one
  have c0 := h.blk.cell 0
  have c1 := h.blk.cell 1
  have z0 := h.blk.frozen 0
  have z1 := h.blk.frozen 1
  have hlp := h.blk.lt
  simp only [List.getElem?_toArray, List.getElem?_cons_zero, List.getElem?_cons_succ] at c0 c1
  have hfew := h.good.few
  have H := hide h
  by_cases hin : a < 0 ∨ (s.acs.length : Int) ≤ a
  · have ht := ther_no hin
    rw [opn_none ht]
    rw [ht] at Ht
    clear h ht
    go_enter Tryz.func7, Tryz.ntmps7
    go_wp2_with fail
    refine (unhide Ht).mono ?_
    rintro e w1 ⟨rfl, rfl⟩
    go_wp2_with fail
    go_ret2
    exact ⟨rfl, ⟨_, _, _, _, unhide H⟩, FrT.refl _ _ _⟩
  · obtain ⟨k, rfl⟩ : ∃ k : Nat, a = k := ⟨a.toNat, by omega⟩
    have hk : k < s.acs.length := by omega
    obtain ⟨c, hc⟩ := acs_get hk
    have d := ownsRow_cell h.clo (j := k) (u := .bool c.2) (by rw [List.getElem?_map, hc]; rfl)
    have ht := ther_nat hk
    rw [ht] at Ht
    have hcl := clsd_at hc
    clear h hin
    cases hcc : c.2 with
    | true =>
      rw [hcc] at d hcl
      rw [opn_shut ht hcl]
      clear ht hcl hc
      go_enter Tryz.func7, Tryz.ntmps7
      go_wp2_with fail
      refine (unhide Ht).mono ?_
      rintro e w1 ⟨rfl, rfl⟩
      go_wp2_with fail
      go_ret2
      exact ⟨rfl, ⟨_, _, _, _, unhide H⟩, FrT.refl _ _ _⟩
    | false =>
      rw [hcc] at d hcl
      by_cases hf : 16 ≤ s.acs.length
      · rw [opn_full ht hcl hf]
        have he : ((s.acs.length : Int) == 16) = true := by simp; omega
        clear ht hcl hc
        go_enter Tryz.func7, Tryz.ntmps7
        go_wp2_with fail
        refine (unhide Ht).mono ?_
        rintro e w1 ⟨rfl, rfl⟩
        go_wp2_with fail
        go_ret2
        exact ⟨rfl, ⟨_, _, _, _, unhide H⟩, FrT.refl _ _ _⟩
      · have hok := opn_ok ht hcl hf
        have he : ((s.acs.length : Int) == 16) = false := by simp; omega
        have Hgood : Hid (BkGood { s with acs := s.acs ++ [((k : Int), false)] }) := by
          have := BkGood.opn (unhide H).good (k : Int)
          rw [hok] at this
          exact this
        rw [hok]
        clear ht hcl hc hok
        go_enter Tryz.func7, Tryz.ntmps7
        go_wp2_with fail
        refine (unhide Ht).mono ?_
        rintro e w1 ⟨rfl, rfl⟩
        go_wp2_with (first
          | (at_builtin; refine wpList_append_own _ rfl (.tmp 32) (.tmp 34) 28 rfl B 3 ii (.int .i64 0) 1 8 Tryz.underlying28 hi hz0 hz1 hz2 rfl (by decide) (.slice (some ⟨g, 0, none⟩) s.acs.length cap) s.acs.length _ rfl ((unhide H).par.alloc _) ⟨w1.heap.size, 0, none⟩ 1 1 [.int .i64 (k : Int)] rfl rfl (new1 _ _ (by simp) _ _) (fun x hx => by simp at hx; subst hx; rfl) (by unfold maxLen; omega) (by omega) (by simp; omega) ?_; intro vq' w5 hown5 hgr5 _; obtain ⟨gf, cf, rfl, hgf, hgf'⟩ := ownsRow_some hown5 (Nat.succ_pos _); have hblk5 := ((unhide H).blk.alloc _).grown hgr5 (blk_own_ne (unhide H).blk (unhide H).par (by decide)); have c5 := hblk5.cell 0; have z5 := hblk5.frozen 0; have l5 := hblk5.lt; have e5 := hblk5.cell 1; have y5 := hblk5.frozen 1; simp only [List.getElem?_toArray, List.getElem?_cons_zero, List.getElem?_cons_succ] at c5 e5; have Hclo5 := hide (((unhide H).clo.alloc _).kept hgr5 (own_apart' (unhide H).clo (unhide H).par (by decide))); have Hlo := hide (unhide H).lo; have Hclo6 := hide (fun v => ownsRow_frT (unhide Hclo5) ((FrT.refl B [47] w5).setCell (p := ⟨p, 0, none⟩) (T := 47) (by simp) hblk5.tg (unhide Hlo) v) (by decide)); have Hblk6 := hide (fun v => hblk5.set 0 v); have Hblk5 := hide hblk5; have Hown5 := hide hown5; have Hgr5 := hide hgr5; clear hblk5 hown5 hgr5)
          | (at_builtin; refine wpList_append_own _ rfl (.tmp 42) (.tmp 43) 44 rfl B 4 jj (.bool false) 1 1 Tryz.underlying44 hj hy0 hy1 hy2 rfl (by decide) (.slice (some ⟨g2, 0, none⟩) s.acs.length cap2) s.acs.length _ rfl ((unhide Hclo6 _).alloc _) ⟨w5.heap.size, 0, none⟩ 1 1 [.bool false] rfl rfl (new1 _ _ (by simp [World.setCell]) _ _) (fun x hx => by simp at hx; subst hx; rfl) (by unfold maxLen; omega) (by omega) (by simp [World.setCell]; omega) ?_; intro vq' w6 hown6 hgr6 _; obtain ⟨gh, ch, rfl, hgh, hgh'⟩ := ownsRow_some hown6 (Nat.succ_pos _); have hblk6 := ((unhide Hblk6 _).alloc _).grown hgr6 (blk_own_ne (unhide Hblk6 vt) (unhide Hclo6 vt) (by decide)); simp only [List.setIfInBounds_toArray, List.set_cons_zero] at hblk6; have c6 := hblk6.cell 1; have z6 := hblk6.frozen 1; have l6 := hblk6.lt; have e6 := hblk6.cell 0; simp only [List.getElem?_toArray, List.getElem?_cons_zero, List.getElem?_cons_succ] at c6 e6; have Hbl6 := hide hblk6; have Hown6 := hide hown6; have Hgr6 := hide hgr6; clear hblk6 hown6 hgr6))
        go_ret2
        have hfin := (unhide H).more _ _ (unhide Hgr5) (unhide Hblk5) (s' := { s with acs := s.acs ++ [((k : Int), false)] }) (by simpa using unhide Hown5) (unhide Hgr6) (unhide Hbl6) (by simpa using unhide Hown6) rfl (unhide Hgood)
        exact ⟨by simp, ⟨_, _, _, _, hfin.1⟩, hfin.2⟩

end Go.Proofs.YtpcdkhmahbecaaaGreatDoor
