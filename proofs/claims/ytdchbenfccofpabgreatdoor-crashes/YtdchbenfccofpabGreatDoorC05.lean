/- A record: it follows an Open. The law's lists: still, over. The law's pair of books: opened, closed. -/
import Derived.Test.YtdchbenfccofpabGreatDoorC04
import Derived.Test.YtdchbenfccofpabGreatDoorC01
import Derived.Deep.AppendLies
import Derived.Deep.RegionLaw
import Derived.Test.YtdchbenfccofpabGreatDoorC03
import Derived.Deep.RegionHeld3
namespace Go.Proofs.YtdchbenfccofpabGreatDoor
open Go.RowKit Db

/-- One account more. -/
theorem RecAt.more {w w5 w6 : World} {B p : Nat} {vp vp' vc vc' vt : Value} {tv : List (Tn × Value)} {s s' : Bk} (h : RecAt w B p vp vc vt tv s) (f1 : FrT B [3] w w5) (o2 : Obj) (hblk : Blk w5 p #[vp, vc, vt] 91)
    (hown : w5.ownsRow B 3 1 vp' s'.acs.length (s'.acs.map fun a => .int .i64 a.1))
    (hgr2 : ((w5.setCell ⟨p, 0, none⟩ vp').alloc o2).grownBy w6 vc.ownBlock) (hblk2 : Blk w6 p #[vp', vc, vt] 91)
    (hown2 : w6.ownsRow B 4 1 vc' s'.acs.length (s'.acs.map fun a => .bool a.2)) (hs : s'.txs = s.txs) (hg : BkGood s') :
    RecAt (w6.setCell ⟨p, 1, none⟩ vc') B p vp' vc' vt tv s' ∧ FrT B tK w (w6.setCell ⟨p, 1, none⟩ vc') := by
  have f2 : FrT B [91] w5 (w5.setCell ⟨p, 0, none⟩ vp') := (FrT.refl _ _ w5).setCell (T := 91) (by simp) hblk.tg h.lo _
  have hc : (w5.setCell ⟨p, 0, none⟩ vp').ownsRow B 4 1 vc s.acs.length (s.acs.map fun a => .bool a.2) := ownsRow_frT (ownsRow_frT h.clo f1 (by decide)) f2 (by decide)
  have f3 : FrT B [4] (w5.setCell ⟨p, 0, none⟩ vp') w6 := ((FrT.refl _ _ _).alloc o2).grown hgr2 (T := 4) (by simp) (fun k hk => ⟨(ownsRow_tg hc k hk).1, tg_alloc (ownsRow_tg hc k hk).2 o2⟩)
  have f4 : FrT B [91] w6 (w6.setCell ⟨p, 1, none⟩ vc') := (FrT.refl _ _ w6).setCell (T := 91) (by simp) hblk2.tg h.lo _
  refine ⟨⟨?_, h.lo, ownsRow_frT (ownsRow_frT (ownsRow_frT hown f2 (by decide)) f3 (by decide)) f4 (by decide), ownsRow_frT hown2 f4 (by decide), (((h.txs.frT f1 (by decide) (by decide)).frT f2 (by decide) (by decide)).frT f3 (by decide) (by decide)).frT f4 (by decide) (by decide), by rw [hs]; exact h.jr, hg⟩, ?_⟩
  · have := hblk2.set 1 vc'
    simpa using this
  · exact (((f1.mono (by simp [tK])).trans (f2.mono (by simp [tK]))).trans (f3.mono (by simp [tK]))).trans (f4.mono (by simp [tK]))

set_option maxRecDepth 100000 in
set_option maxHeartbeats 4000000 in
theorem yes_open (B q : Nat) (s : Bk) (k : Nat) (b : Int) (ao : Option Addr) (m cap : Nat) (c : Ac) (w : World) (h : Rec w B q s) (hc : s.acs[k]? = some c) (hcc : c.2 = false) (h16 : s.acs.length < 16) (hg : BkGood { s with acs := s.acs ++ [((k : Int), false)] }) :
    Calls Tryz.prog 37 #[.pointer (some ⟨q, 0, none⟩), .agg #[.int .i64 1, .int .i64 (k : Int), .int .i64 b, .slice ao m cap], .int .i64 (s.acs.length : Int)] w fun e w' => e = .returned (.bool true) ∧ Rec w' B q { s with acs := s.acs ++ [((k : Int), false)] } ∧ FrT B tK w w' := by
  obtain ⟨ii, hi, hz0, hz1, hz2⟩ := info_parts infoInt
  obtain ⟨jj, hj, hy0, hy1, hy2⟩ := info_parts infoBool
  obtain ⟨bx, hbx⟩ : ∃ bx, w.heap.size = bx := ⟨_, rfl⟩
  obtain ⟨W, hW⟩ : ∃ W, w.alloc (.cells #[.int .i64 1, .int .i64 (k : Int), .int .i64 b, .slice ao m cap] 44) = W := ⟨_, rfl⟩
  have HX : Hid (Blk W bx #[.int .i64 1, .int .i64 (k : Int), .int .i64 b, .slice ao m cap] 44) := by rw [← hW, ← hbx]; exact Blk.new _ _ _
  have Hb0 : Hid (Below w.heap.size w W) := by rw [← hW]; exact (Below.refl _ _).alloc (Nat.le_refl _) _
  obtain ⟨vp, vc, vt, tv, h⟩ := h
  obtain ⟨g, capp, rfl, hg1, hg1'⟩ := ownsRow_some h.par h.good.one
  obtain ⟨g2, cap2, rfl, hg2, hg2'⟩ := ownsRow_some h.clo h.good.one
  have hk : k < s.acs.length := (List.getElem?_eq_some_iff.1 hc).1
  have H0 := hide (h.kept (unhide Hb0))
  have Hgood := hide hg
  have d := ownsRow_cell (unhide H0).clo (j := k) (u := .bool false) (by rw [List.getElem?_map, hc, ← hcc]; rfl)
  have x0 := (unhide HX).cell 0
  have x1 := (unhide HX).cell 1
  have c0 := (unhide H0).blk.cell 0
  have c1 := (unhide H0).blk.cell 1
  simp only [List.getElem?_toArray, List.getElem?_cons_zero, List.getElem?_cons_succ] at x0 x1 c0 c1
  have l1 : ¬ ((k : Int) < 0) := by omega
  have l2 : ¬ ((s.acs.length : Int) ≤ (k : Int)) := by omega
  have l3 : (k : Int) < (s.acs.length : Int) := by omega
  have l4 : (0 : Int) ≤ (k : Int) := by omega
  have l5 : ((s.acs.length : Int) != (s.acs.length : Int)) = false := by simp
  have HBw := hide (show B ≤ W.heap.size by have h1 := (unhide H0).lo; have h2 := (unhide H0).blk.lt; omega)
  clear h hc hg
  go_enter Tryz.func37, Tryz.ntmps37
  go_upto_region 3 with fail
  try rw [hW]
  try rw [hbx]
  clear hW hbx
  go_quiet (fail)
  obtain ⟨W1, hW1⟩ : ∃ W1, W.drewN nq = W1 := ⟨_, rfl⟩
  have H1 : Hid (RecAt W1 B q (.slice (some ⟨g, 0, none⟩) s.acs.length capp) (.slice (some ⟨g2, 0, none⟩) s.acs.length cap2) vt tv s) := by rw [← hW1]; exact (unhide H0).drewN nq
  have HF1 : Hid (FrT B tK w W1) := by rw [← hW1]; exact (FrT.of_below (unhide Hb0)).drewN _
  have HX1 := hide ((unhide HX).kept ((Below.refl _ _).drewN nq))
  rw [hW1] at HX1 ⊢
  have HBw1 : B ≤ W1.heap.size := by rw [← hW1]; exact unhide HBw
  clear hW1 x0 x1 c0 c1 d H0
  have x1 := (unhide HX1).cell 1
  have lx := (unhide HX1).lt
  have c0 := (unhide H1).blk.cell 0
  have z0 := (unhide H1).blk.frozen 0
  have lq := (unhide H1).blk.lt
  simp only [List.getElem?_toArray, List.getElem?_cons_zero, List.getElem?_cons_succ] at x1 c0
  have Hnb : Hid (Blk (W1.alloc (.cells #[.int .i64 (k : Int)] 3)) W1.heap.size #[.int .i64 (k : Int)] 3) := Blk.new _ _ _
  have hne1 : W1.heap.size ≠ q := by omega
  have hne2 : W1.heap.size ≠ bx := by omega
  go_upto_region 5 with fail
  go_region_law (refine step_append_lies _ rfl (.tmp 53) (.tmp 56) 87 rfl B 3 ii (.int .i64 0) 1 8 Tryz.underlying87 hi hz0 hz1 hz2 rfl (by decide) (.slice (some ⟨g, 0, none⟩) s.acs.length capp) s.acs.length _ (by simp [Act.eval]) (by first | exact ((unhide H1).par.alloc _).drew | exact ((unhide H1).par.alloc _)) ⟨W1.heap.size, 0, none⟩ 1 1 [.int .i64 (k : Int)] (by simp [Act.eval]) rfl (World.news_of_block (by exact unhide Hnb)) (fun x hx => by simp at hx; subst hx; rfl) (by decide) (by unfold maxLen; omega) (by omega) (by simp <;> omega) (W1.heap.size + 1) (by simp) ?_; intro gf cf w5 hown5 hgr5 hat5 hlt5; have hblk5 := Blk.grown (cs := #[.slice (some ⟨g, 0, none⟩) s.acs.length capp, .slice (some ⟨g2, 0, none⟩) s.acs.length cap2, vt]) (T := 91) (b := q) (by exact ((unhide H1).blk.alloc _)) hgr5 (blk_own_ne (unhide H1).blk (unhide H1).par (by decide)); have c5 := hblk5.cell 0; have z5 := hblk5.frozen 0; have e5 := hblk5.cell 1; have y5 := hblk5.frozen 1; have l5 := hblk5.lt; simp only [List.getElem?_toArray, List.getElem?_cons_zero, List.getElem?_cons_succ] at c5 e5; have Hblk5 := hide hblk5; have Hown5 := hide hown5; have Hgr5 := hide hgr5; clear hblk5 hown5 hgr5 hat5)
  all_goals
    have Hf1 : Hid (FrT B [3] W1 w5) := ((((FrT.refl _ _ W1).alloc _).drew).grown (unhide Hgr5) (T := 3) (by simp) (fun j hj => ⟨(ownsRow_tg (unhide H1).par j hj).1, tg_alloc (ownsRow_tg (unhide H1).par j hj).2 _⟩))
    have Hclo6 := hide (fun v => ownsRow_frT (ownsRow_frT (unhide H1).clo (unhide Hf1) (by decide)) ((FrT.refl B [91] w5).setCell (p := ⟨q, 0, none⟩) (T := 91) (by simp) (unhide Hblk5).tg (unhide H1).lo v) (by decide))
    have Hblk6 := hide (fun v => (unhide Hblk5).set 0 v)
    have hBq := (unhide H1).lo
    go_wp2_with (first
      | (at_builtin; refine wpList_append_own _ rfl (.tmp 64) (.tmp 65) 88 rfl B 4 jj (.bool false) 1 1 Tryz.underlying88 hj hy0 hy1 hy2 rfl (by decide) (.slice (some ⟨g2, 0, none⟩) s.acs.length cap2) s.acs.length _ rfl ((unhide Hclo6 _).alloc _) ⟨w5.heap.size, 0, none⟩ 1 1 [.bool false] rfl rfl (new1 _ _ (by simp [World.setCell]) _ _) (fun x hx => by simp at hx; subst hx; rfl) (by unfold maxLen; omega) (by omega) (by simp [World.setCell]; omega) ?_; intro vq' w6 hown6 hgr6 _; obtain ⟨gh, ch, rfl, hgh, hgh'⟩ := ownsRow_some hown6 (Nat.succ_pos _); have hblk6 := ((unhide Hblk6 _).alloc _).grown hgr6 (blk_own_ne (unhide Hblk6 vt) (unhide Hclo6 vt) (by decide)); simp only [List.setIfInBounds_toArray, List.set_cons_zero] at hblk6; have c6 := hblk6.cell 1; have z6 := hblk6.frozen 1; have l6 := hblk6.lt; have e6 := hblk6.cell 0; simp only [List.getElem?_toArray, List.getElem?_cons_zero, List.getElem?_cons_succ] at c6 e6; have Hbl6 := hide hblk6; have Hown6 := hide hown6; have Hgr6 := hide hgr6; clear hblk6 hown6 hgr6))
    go_ret
    have hfin := (unhide H1).more (unhide Hf1) _ (unhide Hblk5) (s' := { s with acs := s.acs ++ [((k : Int), false)] }) (by simpa using unhide Hown5) (unhide Hgr6) (unhide Hbl6) (by simpa using unhide Hown6) rfl (unhide Hgood)
    exact ⟨rfl, ⟨_, _, _, _, hfin.1⟩, (unhide HF1).trans hfin.2⟩

end Go.Proofs.YtdchbenfccofpabGreatDoor
namespace Go.Proofs.YtdchbenfccofpabGreatDoor
open Go.RowKit Db

/-- Block g alone has turned. -/
theorem frm_set {w w' : World} {g i : Nat} (h : Frm w.heap.size (fun k => k = g) w w') (v : Value) : Frm w.heap.size (fun k => k = g) w (w'.setCell ⟨g, i, none⟩ v) := h.setCell (.inr rfl) v

end Go.Proofs.YtdchbenfccofpabGreatDoor
namespace Go.Proofs.YtdchbenfccofpabGreatDoor
open Go.RowKit Db

theorem below_drew (w : World) : Below w.heap.size w w.drew := ⟨rfl, rfl, rfl, Nat.le_refl _, fun _ _ => rfl⟩
theorem Led.drew {w : World} {B p : Nat} {s : Bk} (h : Led w B p s) : Led w.drew B p s := by
  obtain ⟨va, vt, tv, dk, h⟩ := h; exact ⟨_, _, _, _, h.kept (below_drew w)⟩
end Go.Proofs.YtdchbenfccofpabGreatDoor
