/- A record: it follows a Post. -/
import Derived.Test.YtdchbenfccofpaaGreatDoorJ06
import Derived.Deep.RegionHeld3
namespace Go.Proofs.YtdchbenfccofpaaGreatDoor
open Go.RowKit Db

theorem info_ktx : (Tryz.prog.info? 120).map (fun i => (i.zero, i.size, i.bytes)) = some (some (.agg #[.int .i64 0, .int .i64 0, .slice none 0 0]), 3, 40) := by kernel_rfl

set_option maxRecDepth 100000 in
set_option maxHeartbeats 4000000 in
theorem yes_old (B q : Nat) (s : Bk) (a b n : Int) (ao : Option Addr) (cap : Nat) (ls : List Ln) (t : Tn) (w : World) (h : Rec w B q s) (hl : LinesAt w (.slice ao ls.length cap) ls) (hf : findT a s.txs = some t) (htb : t.2.1 = b) (htl : t.2.2 = ls) :
    Calls Tryz.prog 38 #[.pointer (some ⟨q, 0, none⟩), .agg #[.int .i64 3, .int .i64 a, .int .i64 b, .slice ao ls.length cap], .int .i64 n] w fun e w' => e = .returned (.bool true) ∧ Below w.heap.size w w' := by
  obtain ⟨bx, hbx⟩ : ∃ bx, w.heap.size = bx := ⟨_, rfl⟩
  obtain ⟨W, hW⟩ : ∃ W, w.alloc (.cells #[.int .i64 3, .int .i64 a, .int .i64 b, .slice ao ls.length cap] 76) = W := ⟨_, rfl⟩
  have HX : Hid (Blk W bx #[.int .i64 3, .int .i64 a, .int .i64 b, .slice ao ls.length cap] 76) := by rw [← hW, ← hbx]; exact Blk.new _ _ _
  have Hb0 : Hid (Below w.heap.size w W) := by rw [← hW]; exact (Below.refl _ _).alloc (Nat.le_refl _) _
  obtain ⟨vp, vc, vt, tv, h⟩ := h
  have H0 := hide (h.kept (unhide Hb0))
  have Hl0 := hide (hl.kept (unhide Hb0))
  obtain ⟨i, hi, hfi⟩ := findI_some (id := a) s.txs 0 t hf
  rw [Nat.zero_add] at hfi
  have Hfd := hide (recFind_any B q s a W ⟨_, _, _, _, unhide H0⟩)
  rw [hfi] at Hfd
  rw [← h.jr, List.getElem?_map] at hi
  obtain ⟨x, hx, hxt⟩ : ∃ x, tv[i]? = some x ∧ x.1 = t := by
    cases hq : tv[i]? with
    | none => rw [hq] at hi; simp at hi
    | some x => rw [hq] at hi; simp at hi; exact ⟨x, rfl, hi⟩
  have hlen : tv.length ≤ 64 := by have := h.good.posts; rw [← h.jr, List.length_map] at this; exact this
  have hil : i < tv.length := (List.getElem?_eq_some_iff.1 hx).1
  obtain ⟨g, capt, rfl, hg, hg'⟩ := ownsRow_some (unhide H0).txs.own (by omega)
  have h3 := three_get (fun x : Tn × Value => Value.int .i64 x.1.1) (fun x => .int .i64 x.1.2.1) (fun x => x.2) tv i x hx
  have d1 := ownsRow_cell (unhide H0).txs.own (j := i * 3 + 1) h3.2.1
  have d2 := ownsRow_cell (unhide H0).txs.own (j := i * 3 + 2) h3.2.2
  have hln := (unhide H0).txs.lns x (List.mem_of_getElem? hx)
  have h4 : ls.length ≤ 4 := by
    have hm : t ∈ s.txs := by rw [← h.jr, ← hxt]; exact List.mem_map_of_mem (List.mem_of_getElem? hx)
    have := (h.good.tx t hm).2.2.2.2.1
    rw [htl] at this; exact this
  obtain ⟨⟨ti, td, tl⟩, v⟩ := x
  simp only at hxt hln d1 d2
  subst hxt
  simp only at htb htl
  subst htb htl
  obtain ⟨aov, capv, rfl⟩ := ownsRow_form hln
  have HS := hide (fun (wx : World) (hb : Below W.heap.size W wx) => same_any tl tl (.slice aov tl.length capv) (.slice ao tl.length cap) wx ((LinesAt.of_own hln).kept hb) ((unhide Hl0).kept hb) h4)
  have hsame : sameB tl tl = true := by simp [sameB]
  rw [hsame] at HS
  have x0 := (unhide HX).cell 0
  have x1 := (unhide HX).cell 1
  have x2 := (unhide HX).cell 2
  have x3 := (unhide HX).cell 3
  have c2 := (unhide H0).blk.cell 2
  simp only [List.getElem?_toArray, List.getElem?_cons_zero, List.getElem?_cons_succ] at x0 x1 x2 x3 c2
  have l1 : (0 : Int) ≤ (i : Int) := by omega
  have l2 : (i : Int) < (tv.length : Int) := by omega
  have e1 : (td == td) = true := by simp
  clear h hl hi hfi hx h3 hln hf hsame
  go_enter Tryz.func38, Tryz.ntmps38
  go_wp2_with fail
  try rw [hW]
  try rw [hbx]
  clear hW hbx
  refine (unhide Hfd).mono ?_
  rintro e w1 ⟨rfl, rfl⟩
  go_upto_region 14 with fail
  go_region_held3 (fun w' => w'.cell? ⟨q, 2, none⟩ = some (.slice (some ⟨g, 0, none⟩) tv.length capt) ∧ w'.cell? ⟨bx, 3, none⟩ = some (.slice ao tl.length cap) ∧ w'.cell? ⟨g, i * 3 + 2, none⟩ = some (.slice aov tl.length capv)) (first | go_keep | exact ⟨c2, x3, d2⟩) (first | (go_at_call 71; refine (unhide HS _ (by exact (below_drew _))).mono ?_; rintro e w2 ⟨rfl, n2, hw2⟩; subst hw2))
  go_upto_region 15 with fail
  go_quiet (fail)
  go_wp2_with fail
  go_ret
  have hb := unhide Hb0
  exact ⟨rfl, ⟨hb.os, hb.tape, hb.output, hb.size, hb.block⟩⟩

/-- One transaction more. -/
theorem RecAt.post {w w5 : World} {B p : Nat} {vp vc vt vt' v2 : Value} {tv : List (Tn × Value)} {s s' : Bk} {t : Tn} (h : RecAt w B p vp vc vt tv s) (f1 : FrT B [120] w w5) (hv : w.ownsRow B 89 2 v2 t.2.2.length (cellsL t.2.2)) (hblk : Blk w5 p #[vp, vc, vt] 63)
    (hown : w5.ownsRow B 120 3 vt' (tv.length + 1) (cellsT (tv ++ [(t, v2)]))) (hs : s'.txs = s.txs ++ [t]) (ha : s'.acs = s.acs) (hg : BkGood s') :
    RecAt (w5.setCell ⟨p, 2, none⟩ vt') B p vp vc vt' (tv ++ [(t, v2)]) s' ∧ FrT B tK w (w5.setCell ⟨p, 2, none⟩ vt') := by
  have f2 : FrT B [63] w5 (w5.setCell ⟨p, 2, none⟩ vt') := (FrT.refl _ _ w5).setCell (T := 63) (by simp) hblk.tg h.lo _
  refine ⟨⟨?_, h.lo, ?_, ?_, ⟨?_, ?_⟩, ?_, hg⟩, (f1.mono (by simp [tK])).trans (f2.mono (by simp [tK]))⟩
  · have := hblk.set 2 vt'
    simpa using this
  · rw [ha]; exact ownsRow_frT (ownsRow_frT h.par f1 (by decide)) f2 (by decide)
  · rw [ha]; exact ownsRow_frT (ownsRow_frT h.clo f1 (by decide)) f2 (by decide)
  · have := ownsRow_frT hown f2 (by decide)
    simpa using this
  · intro x hx
    rcases List.mem_append.1 hx with hx | hx
    · exact ownsRow_frT (ownsRow_frT (h.txs.lns x hx) f1 (by decide)) f2 (by decide)
    · simp only [List.mem_singleton] at hx
      subst hx
      exact ownsRow_frT (ownsRow_frT hv f1 (by decide)) f2 (by decide)
  · rw [hs, ← h.jr]; simp
theorem own_cp {w : World} {B g : Nat} {ls : List Ln} (h : Blk w g (cellsL ls).toArray 89) (hB : B ≤ g) (h4 : ls.length ≤ 4) : w.ownsRow B 89 2 (.slice (some ⟨g, 0, none⟩) ls.length ls.length) ls.length (cellsL ls) := by
  have hs : (cellsL ls).toArray.size = ls.length * 2 := by rw [List.size_toArray]; exact cellsL_length ls
  exact owns_new (cs := (cellsL ls).toArray) (n := ls.length) h hB (by unfold maxLen; omega) hs
theorem sumL_take {l : List Ln} {j : Nat} {c : Ln} (h : l[j]? = some c) : sumL (l.take (j + 1)) = sumL (l.take j) + c.2 := by
  induction l generalizing j with
  | nil => simp at h
  | cons x t ih =>
    cases j with
    | zero => simp at h; subst h; simp [sumL]
    | succ j => simp only [List.getElem?_cons_succ] at h; have := ih h; simp only [List.take_succ_cons, sumL]; omega

set_option maxRecDepth 100000 in
set_option maxHeartbeats 4000000 in
theorem yes_post (B q : Nat) (s : Bk) (a b n : Int) (ao : Option Addr) (cap : Nat) (ls : List Ln) (w : World) (h : Rec w B q s) (hl : LinesAt w (.slice ao ls.length cap) ls) (hf : findT a s.txs = none) (h4 : ls.length ≤ 4) (h64 : s.txs.length < 64)
    (hls : ∀ l ∈ ls, 0 < l.1 ∧ l.1 < s.acs.length ∧ -1000000000000 ≤ l.2 ∧ l.2 ≤ 1000000000000 ∧ clsd s l.1 = false) (hsum : sumL ls = 0) (hg : BkGood { s with txs := s.txs ++ [(a, b, ls)] }) :
    Calls Tryz.prog 38 #[.pointer (some ⟨q, 0, none⟩), .agg #[.int .i64 3, .int .i64 a, .int .i64 b, .slice ao ls.length cap], .int .i64 n] w fun e w' => e = .returned (.bool true) ∧ Rec w' B q { s with txs := s.txs ++ [(a, b, ls)] } ∧ FrT B tK w w' := by
  obtain ⟨jj, hj, hy0, hy1, hy2⟩ := info_parts info_ktx
  obtain ⟨bx, hbx⟩ : ∃ bx, w.heap.size = bx := ⟨_, rfl⟩
  obtain ⟨W, hW⟩ : ∃ W, w.alloc (.cells #[.int .i64 3, .int .i64 a, .int .i64 b, .slice ao ls.length cap] 76) = W := ⟨_, rfl⟩
  have HX : Hid (Blk W bx #[.int .i64 3, .int .i64 a, .int .i64 b, .slice ao ls.length cap] 76) := by rw [← hW, ← hbx]; exact Blk.new _ _ _
  have Hb0 : Hid (Below w.heap.size w W) := by rw [← hW]; exact (Below.refl _ _).alloc (Nat.le_refl _) _
  obtain ⟨vp, vc, vt, tv, h⟩ := h
  obtain ⟨g1, capp, rfl, hg1, hg1'⟩ := ownsRow_some h.par h.good.one
  obtain ⟨g2, cap2, rfl, hg2, hg2'⟩ := ownsRow_some h.clo h.good.one
  obtain ⟨aot, capt, rfl⟩ := ownsRow_form h.txs.own
  have H0 := hide (h.kept (unhide Hb0))
  have Hl0 := hide (hl.kept (unhide Hb0))
  have Hfd := hide (recFind_any B q s a W ⟨_, _, _, _, unhide H0⟩)
  rw [findI_none _ _ hf] at Hfd
  have hjl : tv.length = s.txs.length := by rw [← h.jr, List.length_map]
  have h64' : tv.length < 64 := by omega
  have hfew := h.good.few
  have Hls := hide hls
  have Hsum := hide hsum
  have Hgood := hide hg
  have x0 := (unhide HX).cell 0
  have x1 := (unhide HX).cell 1
  have x3 := (unhide HX).cell 3
  have c0 := (unhide H0).blk.cell 0
  have c1 := (unhide H0).blk.cell 1
  simp only [List.getElem?_toArray, List.getElem?_cons_zero, List.getElem?_cons_succ] at x0 x1 x3 c0 c1
  clear h hl hf hls hsum hg hjl h64
  go_enter Tryz.func38, Tryz.ntmps38
  go_wp2_with fail
  try rw [hW]
  try rw [hbx]
  clear hW hbx
  refine (unhide Hfd).mono ?_
  rintro e w1 ⟨rfl, rfl⟩
  go_wp2_with fail
  go_loopg [9, 10] ls.length (fun m vs vi wr => ∃ (j : Nat) (x : Int), j ≤ ls.length ∧ m = ls.length - j ∧ vi = .int .i64 j ∧ vs = .int .i64 x ∧ -(1000000000000 * (j : Int)) ≤ x ∧ x ≤ 1000000000000 * (j : Int) ∧ Hid (x = sumL (ls.take j)) ∧ wr = w1)
  case atStart => exact ⟨0, 0, by omega, rfl, rfl, rfl, by omega, by omega, rfl, rfl⟩
  case round =>
    obtain ⟨j, x, hj', rfl, rfl, rfl, hx1, hx2, Hx, rfl⟩ := hrel
    by_cases hlt : j < ls.length
    · obtain ⟨⟨la, lm⟩, hlj⟩ : ∃ l, ls[j]? = some l := ⟨ls[j], List.getElem?_eq_getElem hlt⟩
      obtain ⟨_, bl, off, rfl, hbl, d1, d2⟩ := (unhide Hl0).line hlj
      have hok := unhide Hls _ (List.mem_of_getElem? hlj)
      have Hst := hide (sumL_take hlj)
      simp only at d1 d2 Hst hok
      obtain ⟨k, rfl⟩ : ∃ k : Nat, la = k := ⟨la.toNat, by omega⟩
      have hk : k < s.acs.length := by omega
      obtain ⟨c, hc⟩ := acs_get hk
      have hcc : c.2 = false := by rw [← clsd_at hc]; exact hok.2.2.2.2
      have dd := ownsRow_cell (unhide H0).clo (j := k) (u := .bool false) (by rw [List.getElem?_map, hc, ← hcc]; rfl)
      have l1 : ¬ ((k : Int) < 1) := by omega
      have l2 : ¬ ((s.acs.length : Int) ≤ (k : Int)) := by omega
      obtain ⟨_, _, hm1, hm2, _⟩ := hok
      clear hlj hc hcc
      go_wp2_with fail
      go_roundg (ls.length - (j + 1))
      case measure => omega
      case rel => exact ⟨j + 1, x + lm, by omega, rfl, by go_num, by go_num, by omega, by omega, by show _ = _; rw [unhide Hst, unhide Hx], rfl⟩
    · obtain rfl : j = ls.length := by omega
      have hx0 : x = 0 := by rw [unhide Hx, List.take_length, unhide Hsum]
      subst hx0
      clear x0 x1 c0 c1 Hx hx1 hx2
      go_wp2_with fail
      refine (copied_any _ ls _ (unhide Hl0) (by omega)).mono ?_
      rintro e w2 ⟨rfl, hk2, hb2⟩
      have H2 := hide ((unhide H0).kept hb2)
      have HX2 := hide ((unhide HX).kept hb2)
      have hBw : B ≤ wr.heap.size := by have h1 := (unhide H0).lo; have h2 := (unhide H0).blk.lt; omega
      have HV2 : Hid (w2.ownsRow B 89 2 (.slice (some ⟨wr.heap.size, 0, none⟩) ls.length ls.length) ls.length (cellsL ls)) := own_cp hk2 hBw h4
      have HF2 : Hid (FrT B tK w w2) := (FrT.of_below (unhide Hb0)).then hb2
      have hsz2 := hb2.size
      obtain ⟨gk, hgk⟩ : ∃ gk, wr.heap.size = gk := ⟨_, rfl⟩
      rw [hgk] at HV2 hsz2 hBw ⊢
      have x1 := (unhide HX2).cell 1
      have x2 := (unhide HX2).cell 2
      have lx := (unhide HX2).lt
      have c2 := (unhide H2).blk.cell 2
      have z2 := (unhide H2).blk.frozen 2
      have lq := (unhide H2).blk.lt
      simp only [List.getElem?_toArray, List.getElem?_cons_zero, List.getElem?_cons_succ] at x1 x2 c2
      have hBw2 : B ≤ w2.heap.size := by omega
      have Hnb : Hid (Blk (w2.alloc (.cells #[.int .i64 a, .int .i64 b, .slice (some ⟨gk, 0, none⟩) ls.length ls.length] 120)) w2.heap.size #[.int .i64 a, .int .i64 b, .slice (some ⟨gk, 0, none⟩) ls.length ls.length] 120) := Blk.new _ _ _
      have hne1 : w2.heap.size ≠ q := by omega
      have hne2 : w2.heap.size ≠ bx := by omega
      clear hb2 hk2 hgk Hfd x3
      go_upto_region 25 with fail
      go_region_law (refine step_append_lies _ rfl (.tmp 182) (.tmp 189) 61 rfl B 120 jj (.agg #[.int .i64 0, .int .i64 0, .slice none 0 0]) 3 40 Tryz.underlying61 hj hy0 hy1 hy2 rfl (by decide) (.slice aot tv.length capt) tv.length _ (by simp [Act.eval]) (by first | exact ((unhide H2).txs.own.alloc _).drew | exact ((unhide H2).txs.own.alloc _)) ⟨w2.heap.size, 0, none⟩ 1 1 [.int .i64 a, .int .i64 b, .slice (some ⟨gk, 0, none⟩) ls.length ls.length] (by simp [Act.eval]) rfl (World.news_of_block (by exact unhide Hnb)) (fun x hx => by simp at hx; rcases hx with rfl | rfl | rfl <;> rfl) (by decide) (by unfold maxLen; omega) (by omega) (by simp <;> omega) (w2.heap.size + 1) (by simp) ?_; intro gf cf w5 hown5 hgr5 hat5 hlt5; have hblk5 := Blk.grown (cs := #[.slice (some ⟨g1, 0, none⟩) s.acs.length capp, .slice (some ⟨g2, 0, none⟩) s.acs.length cap2, .slice aot tv.length capt]) (T := 63) (b := q) (by exact ((unhide H2).blk.alloc _)) hgr5 (blk_own_ne (unhide H2).blk (unhide H2).txs.own (by decide)); have c5 := hblk5.cell 2; have z5 := hblk5.frozen 2; have l5 := hblk5.lt; simp only [List.getElem?_toArray, List.getElem?_cons_zero, List.getElem?_cons_succ] at c5; have Hblk5 := hide hblk5; have Hown5 := hide hown5; have Hgr5 := hide hgr5; clear hblk5 hown5 hgr5 hat5)
      all_goals
        have Hf1 : Hid (FrT B [120] w2 w5) := ((((FrT.refl _ _ w2).alloc _).drew).grown (unhide Hgr5) (T := 120) (by simp) (fun j hj => ⟨(ownsRow_tg (unhide H2).txs.own j hj).1, tg_alloc (ownsRow_tg (unhide H2).txs.own j hj).2 _⟩))
        go_wp2_with fail
        go_ret
        have hfin := (unhide H2).post (t := (a, b, ls)) (unhide Hf1) (unhide HV2) (unhide Hblk5) (s' := { s with txs := s.txs ++ [(a, b, ls)] }) (by rw [cellsT_snoc]; exact unhide Hown5) rfl rfl (unhide Hgood)
        exact ⟨rfl, ⟨_, _, _, _, hfin.1⟩, (unhide HF2).trans hfin.2⟩

end Go.Proofs.YtdchbenfccofpaaGreatDoor
