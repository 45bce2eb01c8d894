/- Records beside others: Post. Records beside others: yes, says. Crashes: one list appended to another; Writes beside kept blocks; a record's copy. Crashes: a book, its record, the writes so far, where each act's end, and a copy of the record behind each. Days and periods that a law picks; what all accounts together come to. Two books at once: a step on one of them leaves the other. -/
import Derived.Test.YtdchbenfccofpabGreatDoorC14
import Derived.Test.YtdchbenfccofpabGreatDoorC07
import Derived.Laws.OwnMore
import Derived.Deep.RegionLaw
import Derived.Deep.AppendLies
import Derived.Test.YtdchbenfccofpabGreatDoorC13
import Derived.Test.YtdchbenfccofpabGreatDoorC11
namespace Go.Proofs.YtdchbenfccofpabGreatDoor
open Go.RowKit Db

theorem RecAx.post {X : Nat → Prop} {w w5 : World} {B p : Nat} {vp vc vt vt' v2 : Value} {tv : List (Tn × Value)} {s s' : Bk} {t : Tn} (h : RecAx X w B p vp vc vt tv s) (f1 : FrX X B [128] w w5) (hv : w.ownsRow B 84 2 v2 t.2.2.length (cellsL t.2.2)) (hblk : Blk w5 p #[vp, vc, vt] 91)
    (hown : w5.ownsRow B 128 3 vt' (tv.length + 1) (cellsT (tv ++ [(t, v2)]))) (hs : s'.txs = s.txs ++ [t]) (ha : s'.acs = s.acs) (hg : BkGood s') (hxt' : ∀ k, vt'.ownBlock = some k → ¬ X k) :
    RecAx X (w5.setCell ⟨p, 2, none⟩ vt') B p vp vc vt' (tv ++ [(t, v2)]) s' ∧ FrX X B tK w (w5.setCell ⟨p, 2, none⟩ vt') := by
  have f2 : FrX X B [91] w5 (w5.setCell ⟨p, 2, none⟩ vt') := (FrX.refl _ _ w5).setCell (T := 91) (by simp) hblk.tg h.lo h.xq _
  refine ⟨⟨⟨?_, h.lo, ?_, ?_, ⟨?_, ?_⟩, ?_, hg⟩, h.xq, h.xp, h.xc, hxt', fun k hk => Nat.lt_of_lt_of_le (h.top k hk) (Nat.le_trans f1.fr.size f2.fr.size)⟩, (f1.mono (by simp [tK])).trans (f2.mono (by simp [tK]))⟩
  · have := hblk.set 2 vt'
    simpa using this
  · rw [ha]; exact ownsRow_frT (ownsRow_frT h.par f1.fr (by decide)) f2.fr (by decide)
  · rw [ha]; exact ownsRow_frT (ownsRow_frT h.clo f1.fr (by decide)) f2.fr (by decide)
  · have := ownsRow_frT hown f2.fr (by decide)
    simpa using this
  · intro x hx
    rcases List.mem_append.1 hx with hx | hx
    · exact ownsRow_frT (ownsRow_frT (h.txs.lns x hx) f1.fr (by decide)) f2.fr (by decide)
    · simp only [List.mem_singleton] at hx
      subst hx
      exact ownsRow_frT (ownsRow_frT hv f1.fr (by decide)) f2.fr (by decide)
  · rw [hs, ← h.jr]; simp

set_option maxRecDepth 100000 in
set_option maxHeartbeats 4000000 in
theorem yesX_post (X : Nat → Prop) (B q : Nat) (s : Bk) (a b n : Int) (ao : Option Addr) (cap : Nat) (ls : List Ln) (w : World) (h : Recx X w B q s) (hl : LinesAt w (.slice ao ls.length cap) ls) (hf : findT a s.txs = none) (h4 : ls.length ≤ 4) (h64 : s.txs.length < 64)
    (hls : ∀ l ∈ ls, 0 < l.1 ∧ l.1 < s.acs.length ∧ -1000000000000 ≤ l.2 ∧ l.2 ≤ 1000000000000 ∧ clsd s l.1 = false) (hsum : sumL ls = 0) (hg : BkGood { s with txs := s.txs ++ [(a, b, ls)] }) :
    Calls Tryz.prog 37 #[.pointer (some ⟨q, 0, none⟩), .agg #[.int .i64 3, .int .i64 a, .int .i64 b, .slice ao ls.length cap], .int .i64 n] w fun e w' => e = .returned (.bool true) ∧ Recx X w' B q { s with txs := s.txs ++ [(a, b, ls)] } ∧ FrX X B tK w w' := by
  obtain ⟨jj, hj, hy0, hy1, hy2⟩ := info_parts info_ktx
  obtain ⟨bx, hbx⟩ : ∃ bx, w.heap.size = bx := ⟨_, rfl⟩
  obtain ⟨W, hW⟩ : ∃ W, w.alloc (.cells #[.int .i64 3, .int .i64 a, .int .i64 b, .slice ao ls.length cap] 44) = W := ⟨_, rfl⟩
  have HX : Hid (Blk W bx #[.int .i64 3, .int .i64 a, .int .i64 b, .slice ao ls.length cap] 44) := by rw [← hW, ← hbx]; exact Blk.new _ _ _
  have Hb0 : Hid (Below w.heap.size w W) := by rw [← hW]; exact (Below.refl _ _).alloc (Nat.le_refl _) _
  obtain ⟨vp, vc, vt, tv, h⟩ := h
  obtain ⟨g1, capp, rfl, hg1, hg1'⟩ := ownsRow_some h.par h.good.one
  obtain ⟨g2, cap2, rfl, hg2, hg2'⟩ := ownsRow_some h.clo h.good.one
  obtain ⟨aot, capt, rfl⟩ := ownsRow_form h.txs.own
  have H0 := hide (h.keptX (unhide Hb0))
  have Hl0 := hide (hl.kept (unhide Hb0))
  have Hfd := hide (recFind_any B q s a W ⟨_, _, _, _, (unhide H0).toRecAt⟩)
  rw [findI_none _ _ hf] at Hfd
  have hjl : tv.length = s.txs.length := by rw [← h.jr, List.length_map]
  have h64' : tv.length < 64 := by omega
  have hfew := h.good.few
  have Hls := hide hls
  have Hsum := hide hsum
  have Hgood := hide hg
  have x0 := (unhide HX).cell 0
  have x1 := (unhide HX).cell 1
  have x3 := (unhide HX).cell 3
  have c0 := (unhide H0).blk.cell 0
  have c1 := (unhide H0).blk.cell 1
  simp only [List.getElem?_toArray, List.getElem?_cons_zero, List.getElem?_cons_succ] at x0 x1 x3 c0 c1
  clear h hl hf hls hsum hg hjl h64
  go_enter Tryz.func37, Tryz.ntmps37
  go_wp2_with fail
  try rw [hW]
  try rw [hbx]
  clear hW hbx
  refine (unhide Hfd).mono ?_
  rintro e w1 ⟨rfl, rfl⟩
  go_wp2_with fail
  go_loopg [9, 10] ls.length (fun m vs vi wr => ∃ (j : Nat) (x : Int), j ≤ ls.length ∧ m = ls.length - j ∧ vi = .int .i64 j ∧ vs = .int .i64 x ∧ -(1000000000000 * (j : Int)) ≤ x ∧ x ≤ 1000000000000 * (j : Int) ∧ Hid (x = sumL (ls.take j)) ∧ wr = w1)
  case atStart => exact ⟨0, 0, by omega, rfl, rfl, rfl, by omega, by omega, rfl, rfl⟩
  case round =>
    obtain ⟨j, x, hj', rfl, rfl, rfl, hx1, hx2, Hx, rfl⟩ := hrel
    by_cases hlt : j < ls.length
    · obtain ⟨⟨la, lm⟩, hlj⟩ : ∃ l, ls[j]? = some l := ⟨ls[j], List.getElem?_eq_getElem hlt⟩
      obtain ⟨_, bl, off, rfl, hbl, d1, d2⟩ := (unhide Hl0).line hlj
      have hok := unhide Hls _ (List.mem_of_getElem? hlj)
      have Hst := hide (sumL_take hlj)
      simp only at d1 d2 Hst hok
      obtain ⟨k, rfl⟩ : ∃ k : Nat, la = k := ⟨la.toNat, by omega⟩
      have hk : k < s.acs.length := by omega
      obtain ⟨c, hc⟩ := acs_get hk
      have hcc : c.2 = false := by rw [← clsd_at hc]; exact hok.2.2.2.2
      have dd := ownsRow_cell (unhide H0).clo (j := k) (u := .bool false) (by rw [List.getElem?_map, hc, ← hcc]; rfl)
      have l1 : ¬ ((k : Int) < 1) := by omega
      have l2 : ¬ ((s.acs.length : Int) ≤ (k : Int)) := by omega
      obtain ⟨_, _, hm1, hm2, _⟩ := hok
      clear hlj hc hcc
      go_wp2_with fail
      go_roundg (ls.length - (j + 1))
      case measure => omega
      case rel => exact ⟨j + 1, x + lm, by omega, rfl, by go_num, by go_num, by omega, by omega, by show _ = _; rw [unhide Hst, unhide Hx], rfl⟩
    · obtain rfl : j = ls.length := by omega
      have hx0 : x = 0 := by rw [unhide Hx, List.take_length, unhide Hsum]
      subst hx0
      clear x0 x1 c0 c1 Hx hx1 hx2
      go_wp2_with fail
      refine (copied_any _ ls _ (unhide Hl0) (by omega)).mono ?_
      rintro e w2 ⟨rfl, hk2, hb2⟩
      have H2 := hide ((unhide H0).keptX hb2)
      have HX2 := hide ((unhide HX).kept hb2)
      have hBw : B ≤ wr.heap.size := by have h1 := (unhide H0).lo; have h2 := (unhide H0).blk.lt; omega
      have HV2 : Hid (w2.ownsRow B 84 2 (.slice (some ⟨wr.heap.size, 0, none⟩) ls.length ls.length) ls.length (cellsL ls)) := own_cp hk2 hBw h4
      have HF2 : Hid (FrX X B tK w w2) := (FrX.of_below (unhide Hb0)).then hb2
      have hsz2 := hb2.size
      obtain ⟨gk, hgk⟩ : ∃ gk, wr.heap.size = gk := ⟨_, rfl⟩
      rw [hgk] at HV2 hsz2 hBw ⊢
      have x1 := (unhide HX2).cell 1
      have x2 := (unhide HX2).cell 2
      have lx := (unhide HX2).lt
      have c2 := (unhide H2).blk.cell 2
      have z2 := (unhide H2).blk.frozen 2
      have lq := (unhide H2).blk.lt
      simp only [List.getElem?_toArray, List.getElem?_cons_zero, List.getElem?_cons_succ] at x1 x2 c2
      have hBw2 : B ≤ w2.heap.size := by omega
      have Hnb : Hid (Blk (w2.alloc (.cells #[.int .i64 a, .int .i64 b, .slice (some ⟨gk, 0, none⟩) ls.length ls.length] 128)) w2.heap.size #[.int .i64 a, .int .i64 b, .slice (some ⟨gk, 0, none⟩) ls.length ls.length] 128) := Blk.new _ _ _
      have hne1 : w2.heap.size ≠ q := by omega
      have hne2 : w2.heap.size ≠ bx := by omega
      clear hb2 hk2 hgk Hfd x3
      go_upto_region 25 with fail
      go_region_law (refine step_append_lies _ rfl (.tmp 182) (.tmp 189) 89 rfl B 128 jj (.agg #[.int .i64 0, .int .i64 0, .slice none 0 0]) 3 40 Tryz.underlying89 hj hy0 hy1 hy2 rfl (by decide) (.slice aot tv.length capt) tv.length _ (by simp [Act.eval]) (by first | exact ((unhide H2).txs.own.alloc _).drew | exact ((unhide H2).txs.own.alloc _)) ⟨w2.heap.size, 0, none⟩ 1 1 [.int .i64 a, .int .i64 b, .slice (some ⟨gk, 0, none⟩) ls.length ls.length] (by simp [Act.eval]) rfl (World.news_of_block (by exact unhide Hnb)) (fun x hx => by simp at hx; rcases hx with rfl | rfl | rfl <;> rfl) (by decide) (by unfold maxLen; omega) (by omega) (by simp <;> omega) (w2.heap.size + 1) (by simp) ?_; intro gf cf w5 hown5 hgr5 hat5 hlt5; have hblk5 := Blk.grown (cs := #[.slice (some ⟨g1, 0, none⟩) s.acs.length capp, .slice (some ⟨g2, 0, none⟩) s.acs.length cap2, .slice aot tv.length capt]) (T := 91) (b := q) (by exact ((unhide H2).blk.alloc _)) hgr5 (blk_own_ne (unhide H2).blk (unhide H2).txs.own (by decide)); have c5 := hblk5.cell 2; have z5 := hblk5.frozen 2; have l5 := hblk5.lt; simp only [List.getElem?_toArray, List.getElem?_cons_zero, List.getElem?_cons_succ] at c5; have Hblk5 := hide hblk5; have Hown5 := hide hown5; have Hgr5 := hide hgr5; have Hx5 : Hid (¬ X gf) := (by intro hX; rcases hat5 with e | e; exact (unhide H2).xt gf e hX; have := (unhide H2).top gf hX; omega); clear hblk5 hown5 hgr5 hat5)
      all_goals
        have Hf1 : Hid (FrX X B [128] w2 w5) := ((((FrX.refl _ _ w2).alloc _).drew).grown (unhide Hgr5) (T := 128) (by simp) (fun j hj => ⟨(ownsRow_tg (unhide H2).txs.own j hj).1, tg_alloc (ownsRow_tg (unhide H2).txs.own j hj).2 _⟩) (unhide H2).xt)
        go_wp2_with fail
        go_ret
        have hfin := (unhide H2).post (t := (a, b, ls)) (unhide Hf1) (unhide HV2) (unhide Hblk5) (s' := { s with txs := s.txs ++ [(a, b, ls)] }) (by rw [cellsT_snoc]; exact unhide Hown5) rfl rfl (unhide Hgood) (fun j hj => by simp only [Value.ownBlock, Option.some.injEq] at hj; subst hj; exact unhide Hx5)
        exact ⟨rfl, ⟨_, _, _, _, hfin.1⟩, (unhide HF2).trans hfin.2⟩


end Go.Proofs.YtdchbenfccofpabGreatDoor
namespace Go.Proofs.YtdchbenfccofpabGreatDoor
open Go.RowKit Db

theorem Recx.frPX {X Y : Nat → Prop} {w w' : World} {B B' q : Nat} {s : Bk} (h : Recx X w B q s) (hf : FrX Y B' tP w w') : Recx X w' B q s := by
  obtain ⟨vp, vc, vt, tv, h⟩ := h
  exact ⟨_, _, _, _, h.toRecAt.frT hf.fr (by decide) (by decide), h.xq, h.xp, h.xc, h.xt, fun k hk => Nat.lt_of_lt_of_le (h.top k hk) hf.fr.size⟩
theorem LedWx.frKX {X Y : Nat → Prop} {w w' : World} {B B' p u : Nat} {ws : List Wr} {s : Bk} (h : LedWx X w B p u ws s) (hf : FrX Y B' tK w w') : LedWx X w' B p u ws s := by
  obtain ⟨va, vt, tv, vw, h⟩ := h
  exact ⟨_, _, _, _, h.toLedAt.frT hf.fr (by decide) (by decide), h.xp, h.xa, h.xt, h.xw, fun k hk => Nat.lt_of_lt_of_le (h.top k hk) hf.fr.size⟩
theorem LedWx.keptX {X : Nat → Prop} {w w' : World} {B p u : Nat} {ws : List Wr} {s : Bk} (h : LedWx X w B p u ws s) (hb : Below w.heap.size w w') : LedWx X w' B p u ws s := by
  obtain ⟨va, vt, tv, vw, h⟩ := h
  exact ⟨_, _, _, _, h.keptX hb⟩

set_option maxRecDepth 100000 in
set_option maxHeartbeats 1000000 in
theorem yesX_any (X : Nat → Prop) (B q : Nat) (s : Bk) (kd a b : Int) (ao : Option Addr) (cap : Nat) (ls : List Ln) (w : World) (h : Recx X w B q s) (hl : LinesAt w (.slice ao ls.length cap) ls) (he : (clE s kd a b ls).2.1 = 0) :
    Calls Tryz.prog 37 #[.pointer (some ⟨q, 0, none⟩), .agg #[.int .i64 kd, .int .i64 a, .int .i64 b, .slice ao ls.length cap], .int .i64 (clE s kd a b ls).1] w fun e w' => e = .returned (.bool true) ∧ Recx X w' B q (clE s kd a b ls).2.2 ∧ FrX X B tK w w' := by
  have hg := clE_good h.rec'.good kd a b ls
  by_cases h1 : kd = 1
  · subst h1
    have e1 : clE s 1 a b ls = opn s a := rfl
    rw [e1] at he hg ⊢
    obtain ⟨k, c, rfl, hc, hcc, h16, e2⟩ := opn_yes he
    rw [e2] at hg ⊢
    exact yesX_open X B q s k b ao ls.length cap c w h hc hcc h16 hg
  by_cases h2 : kd = 2
  · subst h2
    have e1 : clE s 2 a b ls = (0, (cls s a).1, (cls s a).2) := rfl
    rw [e1] at he hg ⊢
    obtain ⟨k, c, rfl, hc, h0, hcc, e2⟩ := cls_yes he
    rw [e2] at hg ⊢
    exact yesX_close X B q s k b 0 ao ls.length cap c w h hc h0 hcc hg
  by_cases h3 : kd = 3
  · subst h3
    have e1 : clE s 3 a b ls = (0, (pst s a b ls).1, (pst s a b ls).2) := rfl
    rw [e1] at he hg ⊢
    rcases pst_yes h.rec'.good he with ⟨t, hf, hb, hls, e2⟩ | ⟨hf, h4, h64, hls, hsum, e2⟩
    · simp only at hg ⊢
      rw [e2]
      exact (yes_old B q s a b 0 ao cap ls t w h.rec' hl hf hb hls).mono fun _ _ ⟨k1, k2⟩ => ⟨k1, h.keptX k2, FrX.of_below k2⟩
    · simp only at hg ⊢
      rw [e2] at hg ⊢
      exact yesX_post X B q s a b 0 ao cap ls w h hl hf h4 h64 hls hsum hg
  · have e1 : clE s kd a b ls = (0, 0, s) := by unfold clE; rw [if_neg h1, if_neg h2, if_neg h3]
    rw [e1]
    have n1 : (kd == 1) = false := by simpa using h1
    have n2 : (kd == 2) = false := by simpa using h2
    have n3 : (kd == 3) = false := by simpa using h3
    have H := hide h
    clear h hg hl he e1 h1 h2 h3
    go_enter Tryz.func37, Tryz.ntmps37
    go_wp2_with fail
    go_ret
    have hb := (Below.refl _ w).alloc (Nat.le_refl _) (.cells #[.int .i64 kd, .int .i64 a, .int .i64 b, .slice ao ls.length cap] 44)
    exact ⟨rfl, (unhide H).keptX hb, FrX.of_below hb⟩


set_option maxRecDepth 100000 in
set_option maxHeartbeats 2000000 in
theorem saysX_any (X : Nat → Prop) (B q p u : Nat) (ws : List Wr) (s : Bk) (kd a b : Int) (ao : Option Addr) (cap : Nat) (ls : List Ln) (w : World) (hr : Recx X w B q s) (hb : LedWx X w B p u ws s) (hk : ∀ w', FrT B tP w w' → LinesAt w' (.slice ao ls.length cap) ls) (hn : ls.length ≤ 8796093022000) :
    Calls Tryz.prog 21 #[.pointer (some ⟨q, 0, none⟩), .pointer (some ⟨p, 0, none⟩), .agg #[.int .i64 kd, .int .i64 a, .int .i64 b, .slice ao ls.length cap]] w fun e w' => e = .returned (.bool true) ∧ Recx X w' B q (clE s kd a b ls).2.2 ∧ LedWx X w' B p (dkU (clY s kd a b ls) u) (dkW (clY s kd a b ls) u (clX kd a b ls) ws) (clE s kd a b ls).2.2 ∧ FrX X B tPK w w' := by
  obtain ⟨bx, hbx⟩ : ∃ bx, w.heap.size = bx := ⟨_, rfl⟩
  obtain ⟨W, hW⟩ : ∃ W, w.alloc (.cells #[.int .i64 kd, .int .i64 a, .int .i64 b, .slice ao ls.length cap] 44) = W := ⟨_, rfl⟩
  have HX : Hid (Blk W bx #[.int .i64 kd, .int .i64 a, .int .i64 b, .slice ao ls.length cap] 44) := by rw [← hW, ← hbx]; exact Blk.new _ _ _
  have Hb0 : Hid (Below w.heap.size w W) := by rw [← hW]; exact (Below.refl _ _).alloc (Nat.le_refl _) _
  have Hc := hide (calledX_any X B p u ws s kd a b ao cap ls W (hb.keptX (unhide Hb0)) (hk W (FrT.of_below (unhide Hb0))) hn)
  have HR0 := hide (hr.keptX (unhide Hb0))
  have HK : Hid (∀ w', FrT B tP W w' → LinesAt w' (.slice ao ls.length cap) ls) := fun w' hf => hk w' ((FrT.of_below (unhide Hb0)).trans hf)
  have Hno := hide (fun h => clE_no (s := s) (kd := kd) (a := a) (b := b) (ls := ls) h)
  have Hy := hide (fun (wx : World) (h : Recx X wx B q s) (hl : LinesAt wx (.slice ao ls.length cap) ls) (he : (clE s kd a b ls).2.1 = 0) => yesX_any X B q s kd a b ao cap ls wx h hl he)
  obtain ⟨⟨x, y, s'⟩, hcl⟩ : ∃ r, clE s kd a b ls = r := ⟨_, rfl⟩
  obtain ⟨u', hu'⟩ : ∃ u', dkU (clY s kd a b ls) u = u' := ⟨_, rfl⟩
  obtain ⟨ws', hws'⟩ : ∃ ws', dkW (clY s kd a b ls) u (clX kd a b ls) ws = ws' := ⟨_, rfl⟩
  rw [hcl, hu', hws'] at Hc ⊢
  rw [hcl] at Hno Hy
  simp only at Hc Hno Hy ⊢
  have x0 := (unhide HX).cell 0
  have x1 := (unhide HX).cell 1
  have x2 := (unhide HX).cell 2
  have x3 := (unhide HX).cell 3
  simp only [List.getElem?_toArray, List.getElem?_cons_zero, List.getElem?_cons_succ] at x0 x1 x2 x3
  clear hr hb hk hcl hu' hws'
  by_cases hy : y = 0
  · subst hy
    go_enter Tryz.func21, Tryz.ntmps21
    go_wp2_with fail
    try rw [hW]
    try rw [hbx]
    clear hW hbx
    refine (unhide Hc).mono ?_
    rintro e w1 ⟨rfl, k1, k2⟩
    have K1 := hide k1
    have K2 := hide k2
    have HX1 := hide ((unhide HX).frT k2.fr (by decide))
    have Hyy := hide (unhide Hy w1 ((unhide HR0).frPX k2) (unhide HK w1 k2.fr) (by trivial))
    have y0 := (unhide HX1).cell 0
    have y1 := (unhide HX1).cell 1
    have y2 := (unhide HX1).cell 2
    have y3 := (unhide HX1).cell 3
    simp only [List.getElem?_toArray, List.getElem?_cons_zero, List.getElem?_cons_succ] at y0 y1 y2 y3
    clear k1 k2 x0 x1 x2 x3 Hc Hy
    go_wp2_with fail
    refine (unhide Hyy).mono ?_
    rintro e w2 ⟨rfl, j1, j2⟩
    have HF : Hid (Recx X w2 B q s' ∧ LedWx X w2 B p u' ws' s' ∧ FrX X B tPK w w2) := ⟨j1, (unhide K1).frKX j2, ((FrX.of_below (unhide Hb0)).trans ((unhide K2).mono (by simp [tPK]; intros; simp [*]))).trans (j2.mono (by simp [tPK]; intros; simp [*]))⟩
    clear j1 j2 Hyy
    go_wp2_with fail
    go_ret
    exact ⟨rfl, unhide HF⟩
  · have hye : (y == 0) = false := by simpa using hy
    obtain ⟨rfl, rfl⟩ := unhide Hno hy
    go_enter Tryz.func21, Tryz.ntmps21
    go_wp2_with fail
    try rw [hW]
    try rw [hbx]
    clear hW hbx
    refine (unhide Hc).mono ?_
    rintro e w1 ⟨rfl, k1, k2⟩
    have HF : Hid (Recx X w1 B q s' ∧ LedWx X w1 B p u' ws' s' ∧ FrX X B tPK w w1) := ⟨(unhide HR0).frPX k2, k1, (FrX.of_below (unhide Hb0)).trans (k2.mono (by simp [tPK]; intros; simp [*]))⟩
    clear k1 k2 Hc
    go_wp2_with fail
    go_ret
    exact ⟨rfl, unhide HF⟩


end Go.Proofs.YtdchbenfccofpabGreatDoor
namespace Go.RowKit
section
variable {P : Program} {w : World}
theorem run_append_src (base : Nat) (t ty e : TypeId) (i : TypeInfo) (z : Value) (size bytes : Nat) (ht : P.underlying t = some (.slice e)) (hi : P.info? e = some i) (hz : i.zero = some z)
    (hsize : i.size = size) (hby : i.bytes = bytes) (hzs : z.cells.size = size) (hsz : 0 < size)
    (v : Value) (n : Nat) (xs : List Value) (hown : w.ownsRow base e size v n xs) (B2 : Nat) (v2 : Value) (m : Nat) (ys : List Value) (hown2 : w.ownsRow B2 e size v2 m ys) (h1 : ∀ u ∈ ys, u.oneCell' = true)
    (h63 : n + m ≤ maxLen) (hbytes : (n + m) * bytes ≤ 140737488355328) (hbase : base ≤ w.heap.size) :
    ∃ v' w', (Builtin.append_ #[t, t] ty #[v, v2]).run P w = .ok v' w' ∧ w'.ownsRow base e size v' (n + m) (xs ++ ys) ∧ w.grownBy w' v.ownBlock ∧ (v'.ownBlock = v.ownBlock ∨ v'.ownBlock = some w.heap.size) := by
  rcases hown2.2 with ⟨rfl, hm⟩ | ⟨g, cap, cur, rfl, _⟩
  · have hy : ys = [] := List.length_eq_zero_iff.1 (by rw [hown2.1, hm]; simp)
    subst hm hy
    refine ⟨v, w, run_append_owned_none (P := P) (w := w) base t ty e i size ht hi v n xs hown, by simpa using hown, ⟨rfl, rfl, rfl, Nat.le_refl _, fun _ _ _ => rfl⟩, .inl rfl⟩
  · obtain ⟨v', w', hr, h2, h3, _, h5⟩ := run_append_own_at (P := P) w base t ty e i z size bytes ht hi hz hsize hby hzs hsz v n xs hown ⟨g, 0, none⟩ m cap ys hown2.1 (hown2.cells (g := g) rfl) h1 h63 hbytes hbase
    exact ⟨v', w', hr, h2, h3, h5⟩
theorem wp_append_src {o : Oper} {a : Act} {K : Act → World → Prop} {Q : Exit → Act → World → Prop} (s x : Operand) (t : TypeId)
    (ho : o.op = .call { callee := .builtin .append, args := #[s, x], argTypes := #[t, t] })
    (base : Nat) (e : TypeId) (i : TypeInfo) (z : Value) (size bytes : Nat) (ht : P.underlying t = some (.slice e)) (hi : P.info? e = some i) (hz : i.zero = some z)
    (hsize : i.size = size) (hby : i.bytes = bytes) (hzs : z.cells.size = size) (hsz : 0 < size)
    (v : Value) (n : Nat) (xs : List Value) (hs : a.eval s = v) (hown : w.ownsRow base e size v n xs) (B2 : Nat) (v2 : Value) (m : Nat) (ys : List Value) (hx : a.eval x = v2) (hown2 : w.ownsRow B2 e size v2 m ys) (h1 : ∀ u ∈ ys, u.oneCell' = true)
    (h63 : n + m ≤ maxLen) (hbytes : (n + m) * bytes ≤ 140737488355328) (hbase : base ≤ w.heap.size)
    (h : ∀ v' w', w'.ownsRow base e size v' (n + m) (xs ++ ys) → w.grownBy w' v.ownBlock → (v'.ownBlock = v.ownBlock ∨ v'.ownBlock = some w.heap.size) → K (a.put o.dst v') w') : o.wp P a w K Q := by
  obtain ⟨v', w', hr, h2, h3, h4⟩ := run_append_src (P := P) base t o.type e i z size bytes ht hi hz hsize hby hzs hsz v n xs hown B2 v2 m ys hown2 h1 h63 hbytes hbase
  unfold Oper.wp execOp
  simp only [ho, resolve, invoke, builtin, Sem.run_bind, Sem.run_pure, Result.andThen_ok, List.map_toArray, List.map_cons, List.map_nil, hs, hx, hr]
  exact h v' w' h2 h3 h4
theorem wpList_append_src {ops : Array Oper} {rest : List Oper} {o : Oper} {a : Act} {Q : Exit → Act → World → Prop} (hgd : o.guard = none) (s x : Operand) (t : TypeId)
    (ho : o.op = .call { callee := .builtin .append, args := #[s, x], argTypes := #[t, t] })
    (base : Nat) (e : TypeId) (i : TypeInfo) (z : Value) (size bytes : Nat) (ht : P.underlying t = some (.slice e)) (hi : P.info? e = some i) (hz : i.zero = some z)
    (hsize : i.size = size) (hby : i.bytes = bytes) (hzs : z.cells.size = size) (hsz : 0 < size)
    (v : Value) (n : Nat) (xs : List Value) (hs : a.eval s = v) (hown : w.ownsRow base e size v n xs) (B2 : Nat) (v2 : Value) (m : Nat) (ys : List Value) (hx : a.eval x = v2) (hown2 : w.ownsRow B2 e size v2 m ys) (h1 : ∀ u ∈ ys, u.oneCell' = true)
    (h63 : n + m ≤ maxLen) (hbytes : (n + m) * bytes ≤ 140737488355328) (hbase : base ≤ w.heap.size)
    (h : ∀ v' w', w'.ownsRow base e size v' (n + m) (xs ++ ys) → w.grownBy w' v.ownBlock → (v'.ownBlock = v.ownBlock ∨ v'.ownBlock = some w.heap.size) → wpList P ops Q rest (a.put o.dst v') w') : wpList P ops Q (o :: rest) a w :=
  wpList_plain hgd fun _ hK => wp_append_src s x t ho base e i z size bytes ht hi hz hsize hby hzs hsz v n xs hs hown B2 v2 m ys hx hown2 h1 h63 hbytes hbase fun v' w' h2 h3 h4 => hK _ _ (h v' w' h2 h3 h4)
theorem step_append_src {ops : Array Oper} {o : Oper} {a : Act} {K : Act → World → Prop} {Q : Exit → Act → World → Prop} {E : Prop} (hgd : o.guard = none) (s x : Operand) (t : TypeId)
    (ho : o.op = .call { callee := .builtin .append, args := #[s, x], argTypes := #[t, t] })
    (base : Nat) (e : TypeId) (i : TypeInfo) (z : Value) (size bytes : Nat) (ht : P.underlying t = some (.slice e)) (hi : P.info? e = some i) (hz : i.zero = some z)
    (hsize : i.size = size) (hby : i.bytes = bytes) (hzs : z.cells.size = size) (hsz : 0 < size)
    (v : Value) (n : Nat) (xs : List Value) (hs : a.eval s = v) (hown : w.ownsRow base e size v n xs) (B2 : Nat) (v2 : Value) (m : Nat) (ys : List Value) (hx : a.eval x = v2) (hown2 : w.ownsRow B2 e size v2 m ys) (h1 : ∀ u ∈ ys, u.oneCell' = true)
    (h63 : n + m ≤ maxLen) (hbytes : (n + m) * bytes ≤ 140737488355328) (hbase : base ≤ w.heap.size)
    (h : ∀ v' w', w'.ownsRow base e size v' (n + m) (xs ++ ys) → w.grownBy w' v.ownBlock → (v'.ownBlock = v.ownBlock ∨ v'.ownBlock = some w.heap.size) → K (a.put o.dst v') w') :
    if Region.wanted o (yielded ops a.tmps) = true then Oper.wp P o a w K Q else E := by
  have hw : Region.wanted o (yielded ops a.tmps) = true := by simp [Region.wanted, hgd]
  rw [if_pos hw]
  exact wp_append_src s x t ho base e i z size bytes ht hi hz hsize hby hzs hsz v n xs hs hown B2 v2 m ys hx hown2 h1 h63 hbytes hbase h
end
end Go.RowKit
namespace Go.Proofs.YtdchbenfccofpabGreatDoor
open Go.RowKit Db

/-- A book that has told all its writes. -/
def LedNx (X : Nat → Prop) (w : World) (B p u : Nat) (s : Bk) : Prop := ∃ va vt tv, LedAx X w B p va vt tv ⟨u, .slice none 0 0, []⟩ s
theorem LedAx.told {X : Nat → Prop} {w w5 : World} {B p u : Nat} {va vt vw : Value} {tv : List (Tn × Value)} {ws : List Wr} {s : Bk} (h : LedAx X w B p va vt tv ⟨u, vw, ws⟩ s) (hb : Below w.heap.size w w5) :
    LedAx X (w5.setCell ⟨p, 3, none⟩ (.slice none 0 0)) B p va vt tv ⟨u, .slice none 0 0, []⟩ s ∧ FrX X B [82] w (w5.setCell ⟨p, 3, none⟩ (.slice none 0 0)) := by
  have h5 := h.toLedAt.kept hb
  have f2 : FrX X B [82] w5 (w5.setCell ⟨p, 3, none⟩ (.slice none 0 0)) := (FrX.refl _ _ w5).setCell (T := 82) (by simp) h5.blk.tg h5.lo h.xp _
  refine ⟨⟨⟨?_, h5.lo, ownsRow_frT h5.acs f2.fr (by decide), h5.txs.frT f2.fr (by decide) (by decide), h5.jr, h5.good, World.ownsRow_nil _ _ _ _, Nat.zero_le _, h5.dcnt⟩, h.xp, h.xa, h.xt, fun k hk => by simp [Value.ownBlock] at hk, fun k hk => Nat.lt_of_lt_of_le (h.top k hk) (Nat.le_trans hb.size f2.fr.size)⟩, (FrX.of_below hb).trans f2⟩
  have := h5.blk.set 3 (.slice none 0 0)
  simpa using this


set_option maxRecDepth 100000 in
set_option maxHeartbeats 2000000 in
theorem diskWritesX_any (X : Nat → Prop) (B p u : Nat) (ws : List Wr) (s : Bk) (w : World) (h : LedWx X w B p u ws s) :
    Calls Tryz.prog 40 #[.pointer (some ⟨p, 2, none⟩)] w fun e w' => (∃ v, e = .returned v ∧ w'.ownsRow w.heap.size 96 2 v ws.length (cellsW ws) ∧ (ws = [] → v = .slice none 0 0)) ∧ LedNx X w' B p u s ∧ FrX X B [82] w w' := by
  obtain ⟨ii, hi, hz0, hz1, hz2⟩ := info_parts info_write
  obtain ⟨va, vt, tv, vw, h⟩ := h
  have hwl := h.dlen
  have hcn := h.dcnt
  have hbd := cnt_bound h.good
  have c3 := h.blk.cell 3
  have z3 := h.blk.frozen 3
  have lq := h.blk.lt
  have hlo := h.lo
  simp only [List.getElem?_toArray, List.getElem?_cons_zero, List.getElem?_cons_succ] at c3
  simp only at hwl hcn
  rcases h.dsk.2 with ⟨hvw, hn⟩ | ⟨g, cap, cur, hvw, hBg, _⟩
  · simp only at hvw hn
    subst hvw
    obtain rfl : ws = [] := List.length_eq_zero_iff.1 hn
    have H := hide h
    clear h hn
    go_enter Tryz.func40, Tryz.ntmps40
    go_wp2_with (first
      | (at_builtin; refine wpList_append_own_none rfl (.tmp 4) (.tmp 8) 47 rfl w.heap.size 96 ii 2 Tryz.underlying47 hi (.slice none 0 0) 0 [] rfl (World.ownsRow_nil _ _ _ _) rfl ?_))
    go_ret
    have hfin := (unhide H).told (Below.refl _ w)
    exact ⟨⟨_, rfl, World.ownsRow_nil _ _ _ _, fun _ => rfl⟩, ⟨_, _, _, hfin.1⟩, hfin.2⟩
  · simp only at hvw
    subst hvw
    have H := hide h
    have Hcs : Hid (∀ j x, (cellsW ws)[j]? = some x → w.cell? ((⟨g, 0, none⟩ : Addr).add j) = some x) := by
      intro j x hj
      rw [Addr.add_lit, Nat.zero_add]
      exact ownsRow_cell h.dsk hj
    clear h
    go_enter Tryz.func40, Tryz.ntmps40
    go_wp2_with (first
      | (at_builtin; refine wpList_append_own _ rfl (.tmp 4) (.tmp 8) 47 rfl w.heap.size 96 ii (.agg #[.int .i64 0, .string ⟨#[]⟩]) 2 24 Tryz.underlying47 hi hz0 hz1 hz2 rfl (by decide) (.slice none 0 0) 0 [] rfl (World.ownsRow_nil _ _ _ _) ⟨g, 0, none⟩ ws.length cap (cellsW ws) rfl (cellsW_length ws) (unhide Hcs) (cellsW_one ws) (by unfold maxLen; omega) (by omega) (Nat.le_refl _) ?_; intro vk w3 hown3 hgr3 hnil3; have hb3 := below_of_none hgr3; simp only [Nat.zero_add, List.nil_append] at hown3; have Hnil3 : Hid (ws = [] → vk = .slice none 0 0) := (fun e => hnil3.2 ⟨rfl, by rw [e]; rfl⟩); obtain ⟨ak, ck, rfl⟩ := ownsRow_form hown3; have H3 := hide ((unhide H).keptX hb3); have c5 := (unhide H3).blk.cell 3; have z5 := (unhide H3).blk.frozen 3; have l5 := (unhide H3).blk.lt; simp only [List.getElem?_toArray, List.getElem?_cons_zero, List.getElem?_cons_succ] at c5; have Hown3 := hide hown3; have Hb3 := hide hb3; clear hown3 hgr3 hb3 hnil3))
    go_ret
    have hfin := (unhide H).told (unhide Hb3)
    exact ⟨⟨_, rfl, ownsRow_frT (unhide Hown3) ((FrT.refl B [82] w3).setCell (p := ⟨p, 3, none⟩) (T := 82) (by simp) (unhide H3).blk.tg hlo _) (by decide), unhide Hnil3⟩, ⟨_, _, _, hfin.1⟩, hfin.2⟩


set_option maxRecDepth 100000 in
set_option maxHeartbeats 1000000 in
theorem dayWritesX_any (X : Nat → Prop) (B p u : Nat) (ws : List Wr) (s : Bk) (w : World) (h : LedWx X w B p u ws s) :
    Calls Tryz.prog 23 #[.pointer (some ⟨p, 0, none⟩)] w fun e w' => (∃ ao cap, e = .returned (.slice ao ws.length cap) ∧ w'.ownsRow w.heap.size 96 2 (.slice ao ws.length cap) ws.length (cellsW ws) ∧ (ws = [] → ao = none ∧ cap = 0)) ∧ LedNx X w' B p u s ∧ FrX X B [82] w w' := by
  have Hc := hide (diskWritesX_any X B p u ws s w h)
  clear h
  go_enter Tryz.func23, Tryz.ntmps23
  go_wp2_with fail
  refine (unhide Hc).mono ?_
  rintro e w1 ⟨⟨v, rfl, k1, k4⟩, k2, k3⟩
  obtain ⟨ao, cap, rfl⟩ := ownsRow_form k1
  have HF : Hid (w1.ownsRow w.heap.size 96 2 (.slice ao ws.length cap) ws.length (cellsW ws) ∧ (ws = [] → ao = none ∧ cap = 0)) := ⟨k1, fun e => by have := k4 e; simp only [Value.slice.injEq] at this; exact ⟨this.1, this.2.2⟩⟩
  have HG : Hid (LedNx X w1 B p u s ∧ FrX X B [82] w w1) := ⟨k2, k3⟩
  clear k1 k2 k3 k4 Hc
  go_wp2_with fail
  go_ret
  exact ⟨⟨_, _, rfl, unhide HF⟩, unhide HG⟩


theorem info_kint : (Tryz.prog.info? 3).map (fun i => (i.zero, i.size, i.bytes)) = some (some (.int .i64 0), 1, 8) := by kernel_rfl
theorem ints_one {α : Type} (f : α → Int) (l : List α) : ∀ u ∈ l.map (fun a => Value.int .i64 (f a)), u.oneCell' = true := by
  intro u hu; rw [List.mem_map] at hu; obtain ⟨a, _, rfl⟩ := hu; rfl
theorem bools_one {α : Type} (f : α → Bool) (l : List α) : ∀ u ∈ l.map (fun a => Value.bool (f a)), u.oneCell' = true := by
  intro u hu; rw [List.mem_map] at hu; obtain ⟨a, _, rfl⟩ := hu; rfl
theorem txs_one {w : World} {B : Nat} {T : TypeId} {vt : Value} {tv : List (Tn × Value)} (h : Txs w B T vt tv) : ∀ u ∈ cellsT tv, u.oneCell' = true := by
  intro u hu
  unfold cellsT at hu
  rw [List.mem_flatMap] at hu
  obtain ⟨a, ha, hu⟩ := hu
  obtain ⟨ao, cap, e⟩ := ownsRow_form (h.lns a ha)
  simp at hu
  rcases hu with rfl | rfl | rfl
  · rfl
  · rfl
  · rw [e]; rfl
/-- A copy of a record: its blocks are new. -/
def NewB (n c : Nat) (vp vc vt : Value) : Prop := n ≤ c ∧ (∀ k, vp.ownBlock = some k → n ≤ k) ∧ (∀ k, vc.ownBlock = some k → n ≤ k) ∧ ∀ k, vt.ownBlock = some k → n ≤ k

theorem clone_step {w W w5 : World} {n : Nat} {cs : Array Value} (hb : Below n w W) (hk : Blk W n cs 91) (hgr : W.drew.grownBy w5 (Value.slice none 0 0).ownBlock) (f : Nat) (v : Value) :
    Below n w (w5.setCell ⟨n, f, none⟩ v) ∧ Blk (w5.setCell ⟨n, f, none⟩ v) n (cs.setIfInBounds f v) 91 ∧ W.heap.size ≤ (w5.setCell ⟨n, f, none⟩ v).heap.size ∧ FrT 0 [91] W (w5.setCell ⟨n, f, none⟩ v) ∧ FrT 0 [91] w5 (w5.setCell ⟨n, f, none⟩ v) := by
  have hb5 : Below W.heap.size W w5 := ⟨hgr.os, hgr.tape, hgr.output, hgr.size, fun k hk => hgr.block k hk (by simp [Value.ownBlock])⟩
  have hk5 := hk.kept hb5
  have hlt := hk.lt
  have f5 : FrT 0 [91] w5 (w5.setCell ⟨n, f, none⟩ v) := (FrT.refl _ _ w5).setCell (T := 91) (by simp) hk5.tg (Nat.zero_le _) _
  refine ⟨(hb.trans ⟨hb5.os, hb5.tape, hb5.output, hb5.size, fun k hk => hb5.block k (by omega)⟩).setCell (Nat.le_refl _) _, hk5.set f v, Nat.le_trans hb5.size f5.size, (FrT.of_below hb5).trans f5, f5⟩

set_option maxRecDepth 100000 in
set_option maxHeartbeats 8000000 in
theorem clone_any (B q : Nat) (s : Bk) (w : World) (h : Rec w B q s) :
    Calls Tryz.prog 52 #[.pointer (some ⟨q, 0, none⟩)] w fun e w' => ∃ c vp vc vt tv, e = .returned (.pointer (some ⟨c, 0, none⟩)) ∧ RecAt w' B c vp vc vt tv s ∧ NewB w.heap.size c vp vc vt ∧ Below w.heap.size w w' := by
  obtain ⟨ii, hi, hz0, hz1, hz2⟩ := info_parts info_kint
  obtain ⟨jj, hj, hy0, hy1, hy2⟩ := info_parts infoBool
  obtain ⟨kk, hk, hx0, hx1, hx2⟩ := info_parts info_ktx
  obtain ⟨vp, vc, vt, tv, h⟩ := h
  have hfew := h.good.few
  have hposts : tv.length ≤ 64 := by have := h.good.posts; rw [← h.jr, List.length_map] at this; exact this
  have hlo := h.lo
  obtain ⟨n, hn⟩ : ∃ n, w.heap.size = n := ⟨_, rfl⟩
  have hqn : q < n := by rw [← hn]; exact h.blk.lt
  have HR : Hid (∀ w', Below n w w' → RecAt w' B q vp vc vt tv s) := fun w' hb => h.kept (by rw [hn]; exact hb)
  obtain ⟨W1, hW⟩ : ∃ W, w.alloc (.cells #[.slice none 0 0, .slice none 0 0, .slice none 0 0] 91) = W := ⟨_, rfl⟩
  have HK1 : Hid (Blk W1 n #[.slice none 0 0, .slice none 0 0, .slice none 0 0] 91) := by rw [← hW, ← hn]; exact Blk.new _ _ _
  have Hb1 : Hid (Below n w W1) := by rw [← hW, ← hn]; exact (Below.refl _ _).alloc (Nat.le_refl _) _
  have hs1 : n + 1 ≤ W1.heap.size := by rw [← hW, ← hn]; simp
  have HR1 := hide (unhide HR W1 (unhide Hb1))
  have c0 := (unhide HR1).blk.cell 0
  have k0 := (unhide HK1).cell 0
  have z0 := (unhide HK1).frozen 0
  simp only [List.getElem?_toArray, List.getElem?_cons_zero] at c0 k0
  rw [hn]
  clear h
  go_enter Tryz.func52, Tryz.ntmps52
  go_upto_region 2 with fail
  try rw [hW]
  try rw [hn]
  clear hW hn
  go_region_law (refine step_append_src rfl (.tmp 10) (.tmp 14) 87 rfl n 3 ii (.int .i64 0) 1 8 Tryz.underlying87 hi hz0 hz1 hz2 rfl (by decide) (.slice none 0 0) 0 [] (by simp [Act.eval]) (World.ownsRow_nil _ _ _ _) B vp s.acs.length _ (by simp [Act.eval]) (by first | exact (unhide HR1).par.drew | exact (unhide HR1).par) (ints_one _ _) (by unfold maxLen; omega) (by omega) (by first | omega | (simp; omega)) ?_; intro v1 w1 hown5 hgr5 hat5; simp only [Nat.zero_add, List.nil_append] at hown5; obtain ⟨a1, k1, rfl⟩ := ownsRow_form hown5; have Hown1 := hide hown5; have Hgr1 := hide hgr5; have Hat1 := hide hat5; have hb5 : Below W1.heap.size W1 w1 := ⟨hgr5.os, hgr5.tape, hgr5.output, hgr5.size, fun k hk => hgr5.block k hk (by simp [Value.ownBlock])⟩; have hblk5 := (unhide HK1).kept hb5; have c5 := hblk5.cell 0; have z5 := hblk5.frozen 0; simp only [List.getElem?_toArray, List.getElem?_cons_zero] at c5; clear hown5 hgr5 hat5 hb5 hblk5)
  all_goals
    have hst := clone_step (unhide Hb1) (unhide HK1) (unhide Hgr1) 0 (.slice a1 s.acs.length k1)
    have ho := ownsRow_frT (unhide Hown1) hst.2.2.2.2 (by decide)
    have hnb1 : ∀ k, (Value.slice a1 s.acs.length k1).ownBlock = some k → n ≤ k := by
      intro k hk
      rcases unhide Hat1 with e | e
      · rw [hk] at e; simp [Value.ownBlock] at e
      · rw [hk] at e; simp at e; omega
    have Hnb1 := hide hnb1
    obtain ⟨W2, hW2⟩ : ∃ W2, w1.setCell ⟨n, 0, none⟩ (.slice a1 s.acs.length k1) = W2 := ⟨_, rfl⟩
    rw [hW2] at hst ho ⊢
    have Hb2 := hide hst.1
    have HK2 := hide hst.2.1
    simp only [List.setIfInBounds_toArray, List.set_cons_zero] at HK2
    have hs2 : n + 1 ≤ W2.heap.size := Nat.le_trans hs1 hst.2.2.1
    have HO2 := hide ho
    have HR2 := hide (unhide HR W2 (unhide Hb2))
    clear hst ho hnb1 hW2 c0 k0 z0 c5 z5 Hown1 Hgr1 Hat1
    have c1 := (unhide HR2).blk.cell 1
    have k1' := (unhide HK2).cell 1
    have z1 := (unhide HK2).frozen 1
    simp only [List.getElem?_toArray, List.getElem?_cons_zero, List.getElem?_cons_succ] at c1 k1'
    go_upto_region 3 with fail
    go_region_law (refine step_append_src rfl (.tmp 22) (.tmp 26) 88 rfl n 4 jj (.bool false) 1 1 Tryz.underlying88 hj hy0 hy1 hy2 rfl (by decide) (.slice none 0 0) 0 [] (by simp [Act.eval]) (World.ownsRow_nil _ _ _ _) B vc s.acs.length _ (by simp [Act.eval]) (by first | exact (unhide HR2).clo.drew | exact (unhide HR2).clo) (bools_one _ _) (by unfold maxLen; omega) (by omega) (by first | omega | (simp; omega)) ?_; intro v2 w2 hown5 hgr5 hat5; simp only [Nat.zero_add, List.nil_append] at hown5; obtain ⟨a2, k2, rfl⟩ := ownsRow_form hown5; have Hown2 := hide hown5; have Hgr2 := hide hgr5; have Hat2 := hide hat5; have hb5 : Below W2.heap.size W2 w2 := ⟨hgr5.os, hgr5.tape, hgr5.output, hgr5.size, fun k hk => hgr5.block k hk (by simp [Value.ownBlock])⟩; have hblk5 := (unhide HK2).kept hb5; have c5 := hblk5.cell 1; have z5 := hblk5.frozen 1; simp only [List.getElem?_toArray, List.getElem?_cons_zero, List.getElem?_cons_succ] at c5; clear hown5 hgr5 hat5 hb5 hblk5)
    all_goals
      have hst := clone_step (unhide Hb2) (unhide HK2) (unhide Hgr2) 1 (.slice a2 s.acs.length k2)
      have ho := ownsRow_frT (unhide Hown2) hst.2.2.2.2 (by decide)
      have ho2 := ownsRow_frT (unhide HO2) hst.2.2.2.1 (by decide)
      have hnb2 : ∀ k, (Value.slice a2 s.acs.length k2).ownBlock = some k → n ≤ k := by
        intro k hk
        rcases unhide Hat2 with e | e
        · rw [hk] at e; simp [Value.ownBlock] at e
        · rw [hk] at e; simp at e; omega
      have Hnb2 := hide hnb2
      obtain ⟨W3, hW3⟩ : ∃ W3, w2.setCell ⟨n, 1, none⟩ (.slice a2 s.acs.length k2) = W3 := ⟨_, rfl⟩
      rw [hW3] at hst ho ho2 ⊢
      have Hb3 := hide hst.1
      have HK3 := hide hst.2.1
      simp only [List.setIfInBounds_toArray, List.set_cons_zero, List.set_cons_succ] at HK3
      have hs3 : n + 1 ≤ W3.heap.size := Nat.le_trans hs2 hst.2.2.1
      have HP3 := hide ho2
      have HO3 := hide ho
      have HR3 := hide (unhide HR W3 (unhide Hb3))
      clear hst ho ho2 hnb2 hW3 c1 k1' z1 c5 z5 Hown2 Hgr2 Hat2
      have c2 := (unhide HR3).blk.cell 2
      have k2' := (unhide HK3).cell 2
      have z2 := (unhide HK3).frozen 2
      simp only [List.getElem?_toArray, List.getElem?_cons_zero, List.getElem?_cons_succ] at c2 k2'
      go_upto_region 4 with fail
      go_region_law (refine step_append_src rfl (.tmp 34) (.tmp 38) 89 rfl n 128 kk (.agg #[.int .i64 0, .int .i64 0, .slice none 0 0]) 3 40 Tryz.underlying89 hk hx0 hx1 hx2 rfl (by decide) (.slice none 0 0) 0 [] (by simp [Act.eval]) (World.ownsRow_nil _ _ _ _) B vt tv.length _ (by simp [Act.eval]) (by first | exact (unhide HR3).txs.own.drew | exact (unhide HR3).txs.own) (txs_one (unhide HR3).txs) (by unfold maxLen; omega) (by omega) (by first | omega | (simp; omega)) ?_; intro v3 w3 hown5 hgr5 hat5; simp only [Nat.zero_add, List.nil_append] at hown5; obtain ⟨a3, k3, rfl⟩ := ownsRow_form hown5; have Hown3 := hide hown5; have Hgr3 := hide hgr5; have Hat3 := hide hat5; have hb5 : Below W3.heap.size W3 w3 := ⟨hgr5.os, hgr5.tape, hgr5.output, hgr5.size, fun k hk => hgr5.block k hk (by simp [Value.ownBlock])⟩; have hblk5 := (unhide HK3).kept hb5; have c5 := hblk5.cell 2; have z5 := hblk5.frozen 2; simp only [List.getElem?_toArray, List.getElem?_cons_zero, List.getElem?_cons_succ] at c5; clear hown5 hgr5 hat5 hb5 hblk5)
      all_goals
        have hst := clone_step (unhide Hb3) (unhide HK3) (unhide Hgr3) 2 (.slice a3 tv.length k3)
        have ho := ownsRow_frT (unhide Hown3) hst.2.2.2.2 (by decide)
        have ho2 := ownsRow_frT (unhide HP3) hst.2.2.2.1 (by decide)
        have ho3 := ownsRow_frT (unhide HO3) hst.2.2.2.1 (by decide)
        have hnb3 : ∀ k, (Value.slice a3 tv.length k3).ownBlock = some k → n ≤ k := by
          intro k hk
          rcases unhide Hat3 with e | e
          · rw [hk] at e; simp [Value.ownBlock] at e
          · rw [hk] at e; simp at e; omega
        obtain ⟨W4, hW4⟩ : ∃ W4, w3.setCell ⟨n, 2, none⟩ (.slice a3 tv.length k3) = W4 := ⟨_, rfl⟩
        rw [hW4] at hst ho ho2 ho3 ⊢
        have Hb4 := hide hst.1
        have HR4 := hide (unhide HR W4 (unhide Hb4))
        have hK4 := hst.2.1
        simp only [List.setIfInBounds_toArray, List.set_cons_zero, List.set_cons_succ] at hK4
        have HF : Hid (RecAt W4 B n (.slice a1 s.acs.length k1) (.slice a2 s.acs.length k2) (.slice a3 tv.length k3) tv s ∧ NewB n n (.slice a1 s.acs.length k1) (.slice a2 s.acs.length k2) (.slice a3 tv.length k3)) :=
          ⟨⟨hK4, by omega, ownsRow_base ho2 (fun k hk => by have := unhide Hnb1 k hk; omega), ownsRow_base ho3 (fun k hk => by have := unhide Hnb2 k hk; omega), ⟨ownsRow_base ho (fun k hk => by have := hnb3 k hk; omega), (unhide HR4).txs.lns⟩, (unhide HR4).jr, (unhide HR4).good⟩, Nat.le_refl _, unhide Hnb1, unhide Hnb2, hnb3⟩
        clear hst ho ho2 ho3 hnb3 hW4 c2 k2' z2 c5 z5 Hown3 Hgr3 Hat3 hK4
        go_wp2_with fail
        go_ret
        exact ⟨_, _, _, _, _, rfl, (unhide HF).1, (unhide HF).2, unhide Hb4⟩
end Go.Proofs.YtdchbenfccofpabGreatDoor
namespace Go.RowKit
theorem own_keep {X : Nat → Prop} {w w' : World} {B' : Nat} {Ts : List TypeId} (hf : FrX X B' Ts w w') {B : Nat} {e : TypeId} {size : Nat} {v : Value} {n : Nat} {xs : List Value} (ho : w.ownsRow B e size v n xs) (hx : ∀ k, v.ownBlock = some k → X k) : w'.ownsRow B e size v n xs := by
  refine ⟨ho.1, ?_⟩
  rcases ho.2 with hn | ⟨g, cap, cur, rfl, hbg, hgg, rest⟩
  · exact .inl hn
  · refine .inr ⟨g, cap, cur, rfl, hbg, ?_, rest⟩
    rw [hf.keep g (hx g rfl) (Array.getElem?_eq_some_iff.1 hgg).1]
    exact hgg
theorem own_lt {w : World} {B : Nat} {e : TypeId} {size : Nat} {v : Value} {n : Nat} {xs : List Value} (ho : w.ownsRow B e size v n xs) : ∀ k, v.ownBlock = some k → B ≤ k ∧ k < w.heap.size := by
  intro k hk
  obtain ⟨h1, cs, fz, h2⟩ := ownsRow_tg ho k hk
  exact ⟨h1, (Array.getElem?_eq_some_iff.1 h2).1⟩
theorem frx_grown {w w5 : World} {B : Nat} {row : Option Nat} {T : TypeId} (hgr : w.grownBy w5 row) (hr : ∀ k, row = some k → B ≤ k ∧ Tg w k T) : FrX (fun k => row ≠ some k) B [T] w w5 :=
  FrX.grown (FrX.refl _ _ w) hgr (by simp) hr (fun _ hk h => h hk)
theorem tg_ne {w : World} {k : Nat} {T U : TypeId} (h : Tg w k T) (h' : Tg w k U) : T = U := by
  obtain ⟨cs, fz, hg⟩ := h
  obtain ⟨ds, gz, hg'⟩ := h'
  rw [hg] at hg'
  simp at hg'
  exact hg'.2.1
end Go.RowKit
namespace Go.Proofs.YtdchbenfccofpabGreatDoor
open Go.RowKit Db

theorem LedNx.ledW {X : Nat → Prop} {w : World} {B p u : Nat} {s : Bk} (h : LedNx X w B p u s) : LedWx X w B p u [] s := by obtain ⟨va, vt, tv, h⟩ := h; exact ⟨va, vt, tv, _, h⟩
theorem LedAx.to {X X' : Nat → Prop} {w w' : World} {B p : Nat} {va vt : Value} {tv : List (Tn × Value)} {d : Dk} {s : Bk} (h : LedAx X w B p va vt tv d s) (hl : LedAt w' B p va vt tv d s) (hx : ∀ k, X' k → X k ∨ w.heap.size ≤ k) (top' : ∀ k, X' k → k < w'.heap.size) : LedAx X' w' B p va vt tv d s := by
  have hl0 := h.toLedAt
  refine ⟨hl, fun hk => ?_, fun k hk hX => ?_, fun k hk hX => ?_, fun k hk hX => ?_, top'⟩
  · rcases hx p hk with h1 | h1
    · exact h.xp h1
    · have := hl0.blk.lt; omega
  · rcases hx k hX with h1 | h1
    · exact h.xa k hk h1
    · have := (own_lt hl0.acs k hk).2; omega
  · rcases hx k hX with h1 | h1
    · exact h.xt k hk h1
    · have := (own_lt hl0.txs.own k hk).2; omega
  · rcases hx k hX with h1 | h1
    · exact h.xw k hk h1
    · have := (own_lt hl0.dsk k hk).2; omega
theorem RecAx.to {X X' : Nat → Prop} {w w' : World} {B p : Nat} {vp vc vt : Value} {tv : List (Tn × Value)} {s : Bk} (h : RecAx X w B p vp vc vt tv s) (hl : RecAt w' B p vp vc vt tv s) (hx : ∀ k, X' k → X k ∨ w.heap.size ≤ k) (top' : ∀ k, X' k → k < w'.heap.size) : RecAx X' w' B p vp vc vt tv s := by
  have hl0 := h.toRecAt
  refine ⟨hl, fun hk => ?_, fun k hk hX => ?_, fun k hk hX => ?_, fun k hk hX => ?_, top'⟩
  · rcases hx p hk with h1 | h1
    · exact h.xq h1
    · have := hl0.blk.lt; omega
  · rcases hx k hX with h1 | h1
    · exact h.xp k hk h1
    · have := (own_lt hl0.par k hk).2; omega
  · rcases hx k hX with h1 | h1
    · exact h.xc k hk h1
    · have := (own_lt hl0.clo k hk).2; omega
  · rcases hx k hX with h1 | h1
    · exact h.xt k hk h1
    · have := (own_lt hl0.txs.own k hk).2; omega
/-- A copy of a record that is kept. -/
def Cpy (w : World) (B : Nat) (Kc : Nat → Prop) (c : Nat) (s : Bk) : Prop := ∃ vp vc vt tv, RecAt w B c vp vc vt tv s ∧ Kc c ∧ (∀ k, vp.ownBlock = some k → Kc k) ∧ (∀ k, vc.ownBlock = some k → Kc k) ∧ ∀ k, vt.ownBlock = some k → Kc k
theorem Cpy.rec' {w : World} {B : Nat} {Kc : Nat → Prop} {c : Nat} {s : Bk} (h : Cpy w B Kc c s) : Rec w B c s := by obtain ⟨vp, vc, vt, tv, h, _⟩ := h; exact ⟨vp, vc, vt, tv, h⟩
theorem Cpy.keep {w w' : World} {B B' : Nat} {Kc X : Nat → Prop} {Ts : List TypeId} {c : Nat} {s : Bk} (h : Cpy w B Kc c s) (hf : FrX X B' Ts w w') (hl : 84 ∉ Ts) (hx : ∀ k, Kc k → X k) : Cpy w' B Kc c s := by
  obtain ⟨vp, vc, vt, tv, h1, h2, h3, h4, h5⟩ := h
  exact ⟨vp, vc, vt, tv, h1.keptF hf hl (hx _ h2) (fun k hk => hx k (h3 k hk)) (fun k hk => hx k (h4 k hk)) (fun k hk => hx k (h5 k hk)), h2, h3, h4, h5⟩
def Keep (Kc : Nat → Prop) (vl ve : Value) (k : Nat) : Prop := Kc k ∨ vl.ownBlock = some k ∨ ve.ownBlock = some k
structure Aft (w : World) (B p q pd bo : Nat) (cs : Array Value) (u : Nat) (s : Bk) (ss : List ByteArray) (lg : List Wr) (es : List Nat) (qs : List (Nat × Bk)) (vl ve vr : Value) (Kc : Nat → Prop) : Prop where
  led : LedNx (Keep Kc vl ve) w B p u s
  rec' : Recx (Keep Kc vl ve) w B q s
  log : w.ownsRow B 96 2 vl lg.length (cellsW lg)
  ends : w.ownsRow B 3 1 ve es.length (es.map fun (e : Nat) => Value.int .i64 (e : Int))
  recs : w.ownsRow B 24 1 vr qs.length (qs.map fun x => .pointer (some ⟨x.1, 0, none⟩))
  cps : ∀ x ∈ qs, Cpy w B Kc x.1 x.2
  apart : ∀ k, ve.ownBlock = some k → ¬ Kc k
  top : ∀ k, Kc k → k < w.heap.size
  dsk : DskAt w B pd ss
  box : Blk w bo cs 62
section
variable {w w' : World} {B p q pd bo u : Nat} {cs : Array Value} {s : Bk} {ss : List ByteArray} {lg : List Wr} {es : List Nat} {qs : List (Nat × Bk)} {vl ve vr : Value} {Kc : Nat → Prop}
theorem Aft.ktop (h : Aft w B p q pd bo cs u s ss lg es qs vl ve vr Kc) : ∀ k, Keep Kc vl ve k → k < w.heap.size := by
  rintro k (hk | hk | hk)
  · exact h.top k hk
  · exact (own_lt h.log k hk).2
  · exact (own_lt h.ends k hk).2
theorem Aft.kept (h : Aft w B p q pd bo cs u s ss lg es qs vl ve vr Kc) (hb : Below w.heap.size w w') : Aft w' B p q pd bo cs u s ss lg es qs vl ve vr Kc := by
  obtain ⟨va, vt, tv, hl⟩ := h.led
  refine ⟨⟨va, vt, tv, hl.keptX hb⟩, h.rec'.keptX hb, ownsRow_below h.log hb, ownsRow_below h.ends hb, ownsRow_below h.recs hb, fun x hx => (h.cps x hx).keep (FrX.of_below (X := fun _ => True) (B := 0) (Ts := []) hb) (by simp) (fun _ _ => trivial), h.apart, fun k hk => Nat.lt_of_lt_of_le (h.top k hk) hb.size, h.dsk.kept hb, h.box.kept hb⟩
/-- A step on the book, and the record behind it; the writes are told. -/
theorem Aft.says (h : Aft w B p q pd bo cs u s ss lg es qs vl ve vr Kc) {w1 w2 : World} {u' : Nat} {s' : Bk} (hf : FrX (Keep Kc vl ve) B tPK w w1) (hr : Recx (Keep Kc vl ve) w1 B q s') (hf2 : FrX (Keep Kc vl ve) B [82] w1 w2) (hl : LedNx (Keep Kc vl ve) w2 B p u' s') : Aft w2 B p q pd bo cs u' s' ss lg es qs vl ve vr Kc := by
  have hr2 : Recx (Keep Kc vl ve) w2 B q s' := by
    obtain ⟨vp, vc, vt, tv, k⟩ := hr
    exact ⟨vp, vc, vt, tv, k.toRecAt.frT hf2.fr (by decide) (by decide), k.xq, k.xp, k.xc, k.xt, fun i hi => Nat.lt_of_lt_of_le (k.top i hi) hf2.fr.size⟩
  have hf' : FrX (Keep Kc vl ve) B tPK w w2 := hf.trans (hf2.mono (by simp [tPK, tP]))
  refine ⟨hl, hr2, own_keep hf' h.log (fun k hk => .inr (.inl hk)), own_keep hf' h.ends (fun k hk => .inr (.inr hk)), ownsRow_frT h.recs hf'.fr (by decide), fun x hx => (h.cps x hx).keep hf' (by decide) (fun k hk => .inl hk), h.apart, fun k hk => Nat.lt_of_lt_of_le (h.top k hk) hf'.fr.size, h.dsk.frT hf'.fr (by decide) (by decide), h.box.frT hf'.fr (by decide)⟩
theorem Aft.told (h : Aft w B p q pd bo cs u s ss lg es qs vl ve vr Kc) {w2 : World} (hf2 : FrX (Keep Kc vl ve) B [82] w w2) (hl : LedNx (Keep Kc vl ve) w2 B p u s) : Aft w2 B p q pd bo cs u s ss lg es qs vl ve vr Kc :=
  h.says (FrX.refl _ _ _) h.rec' hf2 hl
/-- More writes. -/
theorem Aft.logs (h : Aft w B p q pd bo cs u s ss lg es qs vl ve vr Kc) {lg' : List Wr} {vl' : Value} (hgr : w.grownBy w' vl.ownBlock) (ho : w'.ownsRow B 96 2 vl' lg'.length (cellsW lg')) (hat : vl'.ownBlock = vl.ownBlock ∨ vl'.ownBlock = some w.heap.size) : Aft w' B p q pd bo cs u s ss lg' es qs vl' ve vr Kc := by
  have hf := frx_grown (B := B) (T := 96) hgr (fun k hk => ownsRow_tg h.log k hk)
  have hx : ∀ k, Keep Kc vl' ve k → Keep Kc vl ve k ∨ w.heap.size ≤ k := by
    rintro k (hk | hk | hk)
    · exact .inl (.inl hk)
    · rcases hat with e | e
      · exact .inl (.inr (.inl (by rw [← e]; exact hk)))
      · rw [hk] at e; simp only [Option.some.injEq] at e; right; omega
    · exact .inl (.inr (.inr hk))
  have htop : ∀ k, Keep Kc vl' ve k → k < w'.heap.size := by
    rintro k (hk | hk | hk)
    · exact Nat.lt_of_lt_of_le (h.top k hk) hf.fr.size
    · exact (own_lt ho k hk).2
    · exact Nat.lt_of_lt_of_le (own_lt h.ends k hk).2 hf.fr.size
  obtain ⟨va, vt, tv, hl⟩ := h.led
  have hne : ∀ {T : TypeId}, T ≠ 96 → ∀ k, Tg w k T → vl.ownBlock ≠ some k := fun hT k hk e => hT (tg_ne hk (ownsRow_tg h.log k e).2)
  have hl' : LedAt w' B p va vt tv ⟨u, .slice none 0 0, []⟩ s := hl.toLedAt.keptF (B' := B) (hf.mono (by simp [tP])) (hne (by decide) p hl.blk.tg) (fun k hk => hne (by decide) k (ownsRow_tg hl.acs k hk).2) (fun k hk => hne (by decide) k (ownsRow_tg hl.txs.own k hk).2) (fun k hk => by simp [Value.ownBlock] at hk)
  obtain ⟨vp, vc, vt2, tv2, hr⟩ := h.rec'
  refine ⟨⟨va, vt, tv, hl.to hl' hx htop⟩, ⟨vp, vc, vt2, tv2, hr.to (hr.toRecAt.frT hf.fr (by decide) (by decide)) hx htop⟩, ho, ownsRow_frT h.ends hf.fr (by decide), ownsRow_frT h.recs hf.fr (by decide), fun x hx => ?_, h.apart, fun k hk => Nat.lt_of_lt_of_le (h.top k hk) hf.fr.size, h.dsk.frT hf.fr (by decide) (by decide), h.box.frT hf.fr (by decide)⟩
  obtain ⟨a, b, c, d, e1, e2⟩ := h.cps x hx
  exact ⟨a, b, c, d, e1.frT hf.fr (by decide) (by decide), e2⟩
/-- One end more. -/
theorem Aft.more (h : Aft w B p q pd bo cs u s ss lg es qs vl ve vr Kc) {es' : List Nat} {ve' : Value} (o : Obj) (hgr : (w.alloc o).grownBy w' ve.ownBlock) (ho : w'.ownsRow B 3 1 ve' es'.length (es'.map fun (e : Nat) => Value.int .i64 (e : Int))) (hat : ve'.ownBlock = ve.ownBlock ∨ ve'.ownBlock = some (w.alloc o).heap.size) : Aft w' B p q pd bo cs u s ss lg es' qs vl ve' vr Kc := by
  have hb0 := (Below.refl w.heap.size w).alloc (Nat.le_refl _) o
  have hf1 := frx_grown (B := B) (T := 3) hgr (fun k hk => ⟨(ownsRow_tg h.ends k hk).1, tg_alloc (ownsRow_tg h.ends k hk).2 o⟩)
  have hf : FrX (fun k => ve.ownBlock ≠ some k) B [3] w w' := (FrX.of_below hb0).trans hf1
  have hx : ∀ k, Keep Kc vl ve' k → Keep Kc vl ve k ∨ w.heap.size ≤ k := by
    rintro k (hk | hk | hk)
    · exact .inl (.inl hk)
    · exact .inl (.inr (.inl hk))
    · rcases hat with e | e
      · exact .inl (.inr (.inr (by rw [← e]; exact hk)))
      · rw [hk] at e; simp only [Option.some.injEq] at e; right; have := hb0.size; omega
  have htop : ∀ k, Keep Kc vl ve' k → k < w'.heap.size := by
    rintro k (hk | hk | hk)
    · exact Nat.lt_of_lt_of_le (h.top k hk) hf.fr.size
    · exact Nat.lt_of_lt_of_le (own_lt h.log k hk).2 hf.fr.size
    · exact (own_lt ho k hk).2
  obtain ⟨va, vt, tv, hl⟩ := h.led
  obtain ⟨vp, vc, vt2, tv2, hr⟩ := h.rec'
  have hr' : RecAt w' B q vp vc vt2 tv2 s := hr.toRecAt.keptF hf (by decide) (fun e => hr.xq (.inr (.inr e))) (fun k hk e => hr.xp k hk (.inr (.inr e))) (fun k hk e => hr.xc k hk (.inr (.inr e))) (fun k hk e => hr.xt k hk (.inr (.inr e)))
  refine ⟨⟨va, vt, tv, hl.to (hl.toLedAt.frT hf.fr (by decide) (by decide)) hx htop⟩, ⟨vp, vc, vt2, tv2, hr.to hr' hx htop⟩, ownsRow_frT h.log hf.fr (by decide), ho, ownsRow_frT h.recs hf.fr (by decide), fun x hx => (h.cps x hx).keep hf (by decide) (fun k hk e => h.apart k e hk), ?_, fun k hk => Nat.lt_of_lt_of_le (h.top k hk) hf.fr.size, h.dsk.frT hf.fr (by decide) (by decide), h.box.frT hf.fr (by decide)⟩
  intro k hk hK
  rcases hat with e | e
  · exact h.apart k (by rw [← e]; exact hk) hK
  · rw [hk] at e; simp only [Option.some.injEq] at e; have := hb0.size; have := h.top k hK; omega
/-- One copy more. -/
theorem Aft.copy (h : Aft w B p q pd bo cs u s ss lg es qs vl ve vr Kc) {w1 : World} {c : Nat} {vp vc vt : Value} {tv : List (Tn × Value)} {vr' : Value} (hb : Below w.heap.size w w1) (hc : RecAt w1 B c vp vc vt tv s) (hn : NewB w.heap.size c vp vc vt) (o : Obj) (hgr : (w1.alloc o).grownBy w' vr.ownBlock)
    (ho : w'.ownsRow B 24 1 vr' (qs ++ [(c, s)]).length ((qs ++ [(c, s)]).map fun x => .pointer (some ⟨x.1, 0, none⟩))) :
    Aft w' B p q pd bo cs u s ss lg es (qs ++ [(c, s)]) vl ve vr' (fun k => Kc k ∨ (k = c ∨ vp.ownBlock = some k ∨ vc.ownBlock = some k ∨ vt.ownBlock = some k)) := by
  have h1 := h.kept hb
  have hb1 := (Below.refl w1.heap.size w1).alloc (Nat.le_refl _) o
  have hf1 := frx_grown (B := B) (T := 24) hgr (fun k hk => ⟨(ownsRow_tg h1.recs k hk).1, tg_alloc (ownsRow_tg h1.recs k hk).2 o⟩)
  have hf : FrX (fun k => vr.ownBlock ≠ some k) B [24] w1 w' := (FrX.of_below hb1).trans hf1
  have own : ∀ k, (k = c ∨ vp.ownBlock = some k ∨ vc.ownBlock = some k ∨ vt.ownBlock = some k) → w.heap.size ≤ k ∧ k < w1.heap.size := by
    rintro k (rfl | hk | hk | hk)
    · exact ⟨hn.1, hc.blk.lt⟩
    · exact ⟨hn.2.1 k hk, (own_lt hc.par k hk).2⟩
    · exact ⟨hn.2.2.1 k hk, (own_lt hc.clo k hk).2⟩
    · exact ⟨hn.2.2.2 k hk, (own_lt hc.txs.own k hk).2⟩
  have hx : ∀ k, Keep (fun k => Kc k ∨ (k = c ∨ vp.ownBlock = some k ∨ vc.ownBlock = some k ∨ vt.ownBlock = some k)) vl ve k → Keep Kc vl ve k ∨ w.heap.size ≤ k := by
    rintro k ((hk | hk) | hk | hk)
    · exact .inl (.inl hk)
    · exact .inr (own k hk).1
    · exact .inl (.inr (.inl hk))
    · exact .inl (.inr (.inr hk))
  have htop : ∀ k, Keep (fun k => Kc k ∨ (k = c ∨ vp.ownBlock = some k ∨ vc.ownBlock = some k ∨ vt.ownBlock = some k)) vl ve k → k < w'.heap.size := by
    rintro k ((hk | hk) | hk | hk)
    · exact Nat.lt_of_lt_of_le (h1.top k hk) hf.fr.size
    · exact Nat.lt_of_lt_of_le (own k hk).2 hf.fr.size
    · exact Nat.lt_of_lt_of_le (own_lt h1.log k hk).2 hf.fr.size
    · exact Nat.lt_of_lt_of_le (own_lt h1.ends k hk).2 hf.fr.size
  obtain ⟨va, vt0, tv0, hl⟩ := h.led
  obtain ⟨vp2, vc2, vt2, tv2, hr⟩ := h.rec'
  refine ⟨⟨va, vt0, tv0, hl.to ((hl.toLedAt.kept hb).frT hf.fr (by decide) (by decide)) hx htop⟩, ⟨vp2, vc2, vt2, tv2, hr.to ((hr.toRecAt.kept hb).frT hf.fr (by decide) (by decide)) hx htop⟩, ownsRow_frT h1.log hf.fr (by decide), ownsRow_frT h1.ends hf.fr (by decide), ho, fun x hxm => ?_, ?_, fun k hk => htop k (.inl hk), h1.dsk.frT hf.fr (by decide) (by decide), h1.box.frT hf.fr (by decide)⟩
  · rw [List.mem_append, List.mem_singleton] at hxm
    rcases hxm with hxm | rfl
    · obtain ⟨a, b, c', d, e1, e2, e3, e4, e5⟩ := h1.cps x hxm
      exact ⟨a, b, c', d, e1.frT hf.fr (by decide) (by decide), .inl e2, fun k hk => .inl (e3 k hk), fun k hk => .inl (e4 k hk), fun k hk => .inl (e5 k hk)⟩
    · exact ⟨vp, vc, vt, tv, hc.frT hf.fr (by decide) (by decide), .inr (.inl rfl), fun k hk => .inr (.inr (.inl hk)), fun k hk => .inr (.inr (.inr (.inl hk))), fun k hk => .inr (.inr (.inr (.inr hk)))⟩
  · intro k hk hK
    rcases hK with hK | hK
    · exact h.apart k hk hK
    · have := (own k hK).1
      have := (own_lt h.ends k hk).2
      omega
end
end Go.Proofs.YtdchbenfccofpabGreatDoor
namespace Db

/-- What is true besides of every book that came of an empty one: transactions sum to nothing; all accounts but 0 have a parent. -/
structure Root (s : Bk) : Prop where
  sums : ∀ t ∈ s.txs, sumL t.2.2 = 0
  par : ∀ (i : Nat) c, 1 ≤ i → s.acs[i]? = some c → 0 ≤ c.1
theorem root0 : Root bk0 := ⟨by simp [bk0], by
  intro i c hi h
  match i, hi with
  | i + 1, _ => simp [bk0] at h⟩
theorem wth_zero {s : Bk} (hg : BkGood s) (hr : Root s) : ∀ (f : Nat) (a : Int), 0 ≤ a → a < f → a < s.acs.length → wth s.acs 0 f a = true := by
  intro f
  induction f with
  | zero => intro a h0 h1; omega
  | succ f ih =>
    intro a h0 h1 h2
    simp only [wth]
    rw [if_neg (by omega)]
    by_cases ha : a = 0
    · subst ha; rfl
    · rw [if_neg (by simpa using ha)]
      obtain ⟨c, hc⟩ : ∃ c, s.acs[a.toNat]? = some c := ⟨s.acs[a.toNat]'(by omega), List.getElem?_eq_getElem (by omega)⟩
      have h3 := hg.ord _ _ hc
      have h4 := hr.par a.toNat c (by omega) hc
      rw [List.getD_eq_getElem?_getD, hc, Option.getD_some]
      exact ih c.1 h4 (by omega) (by omega)
theorem tkL_all {q : Int → Bool} (ls : List Ln) (h : ∀ l ∈ ls, q l.1 = true) : (tkL q ls).1 = sumL ls := by
  induction ls with
  | nil => rfl
  | cons l r ih => simp only [tkL, sumL]; rw [if_pos (h l (by simp)), ih (fun x hx => h x (by simp [hx]))]
theorem tkL_none {q : Int → Bool} (ls : List Ln) (h : ∀ l ∈ ls, q l.1 = false) : tkL q ls = (0, 0) := by
  induction ls with
  | nil => rfl
  | cons l r ih => simp only [tkL]; rw [if_neg (by simp [h l (by simp)]), ih (fun x hx => h x (by simp [hx]))]
theorem tkT_zero {q : Int → Bool} (a b : Int) (ts : List Tn) (h : ∀ t ∈ ts, (tkL q t.2.2).1 = 0) : (tkT q a b ts).1 = 0 := by
  induction ts with
  | nil => rfl
  | cons t r ih =>
    have h1 := h t (by simp)
    have h2 := ih (fun x hx => h x (by simp [hx]))
    simp only [tkT]
    split
    · simp only [h1, h2]; rfl
    · exact h2
/-- All accounts together move by nothing; account 0 has no lines. -/
theorem all_zero {s : Bk} (hg : BkGood s) (hr : Root s) (a b : Int) : (tkT (inA s 64 0) a b s.txs).1 = 0 := by
  refine tkT_zero a b s.txs fun t ht => ?_
  rw [tkL_all t.2.2 fun l hl => ?_]
  · exact hr.sums t ht
  · have h1 := (hg.tx t ht).2.2.2.2.2 l hl
    have h2 := hg.acc t ht l hl
    exact wth_zero hg hr 16 l.1 (by omega) (by omega) h2
theorem own_zero {s : Bk} (hg : BkGood s) (a b : Int) : (tkT (inA s 33 0) a b s.txs).1 = 0 := by
  refine tkT_zero a b s.txs fun t ht => ?_
  rw [tkL_none t.2.2 fun l hl => ?_]
  have h1 := (hg.tx t ht).2.2.2.2.2 l hl
  show (if (33 : Int) == 33 then l.1 == 0 else _) = false
  simp; omega
end Db
namespace Go.Proofs.YtdchbenfccofpabGreatDoor
open Go.RowKit Db

theorem clE_root {s : Bk} (hg : BkGood s) (hr : Root s) (kd a b : Int) (ls : List Ln) : Root (clE s kd a b ls).2.2 := by
  by_cases he : (clE s kd a b ls).2.1 = 0
  · by_cases h1 : kd = 1
    · subst h1
      have e1 : clE s 1 a b ls = opn s a := rfl
      rw [e1] at he ⊢
      obtain ⟨k, c, rfl, hc, hcc, h16, e2⟩ := opn_yes he
      rw [e2]
      refine ⟨hr.sums, fun i c hi h => ?_⟩
      simp only at h
      rw [List.getElem?_append] at h
      split at h
      · exact hr.par i c hi h
      · cases hj : i - s.acs.length with
        | zero => rw [hj] at h; simp at h; subst h; simp
        | succ m => rw [hj] at h; simp at h
    by_cases h2 : kd = 2
    · subst h2
      have e1 : clE s 2 a b ls = (0, (cls s a).1, (cls s a).2) := rfl
      rw [e1] at he ⊢
      obtain ⟨k, c, rfl, hc, h0, hcc, e2⟩ := cls_yes he
      rw [e2]
      refine ⟨hr.sums, fun i d hi h => ?_⟩
      simp only at h
      rw [List.getElem?_set] at h
      split at h
      · split at h
        · rename_i h3 _
          subst h3
          simp only [Option.some.injEq] at h
          subst h
          exact hr.par _ c hi hc
        · cases h
      · exact hr.par i d hi h
    by_cases h3 : kd = 3
    · subst h3
      have e1 : clE s 3 a b ls = (0, (pst s a b ls).1, (pst s a b ls).2) := rfl
      rw [e1] at he ⊢
      rcases pst_yes hg he with ⟨t, _, _, _, e2⟩ | ⟨_, _, _, _, hsum, e2⟩
      · simp only; rw [e2]; exact hr
      · simp only
        rw [e2]
        refine ⟨fun t ht => ?_, hr.par⟩
        simp only [List.mem_append, List.mem_singleton] at ht
        rcases ht with ht | rfl
        · exact hr.sums t ht
        · exact hsum
    · have e1 : clE s kd a b ls = (0, 0, s) := by unfold clE; rw [if_neg h1, if_neg h2, if_neg h3]
      rw [e1]; exact hr
  · rw [(clE_no he).2]; exact hr
theorem krun_root (xs : List KAct) : ∀ (t : KS), BkGood t.s → Root t.s → BkGood (krun t xs).s ∧ Root (krun t xs).s := by
  induction xs with
  | nil => intro t hg hr; exact ⟨hg, hr⟩
  | cons x r ih => intro t hg hr; exact ih (kstep t x) (clE_good hg _ _ _ _) (clE_root hg hr _ _ _ _)
theorem rdy_root : BkGood rdy.s ∧ Root rdy.s := krun_root rdL ⟨bk0, 0, []⟩ good0 root0

def pck (c n : Int) : Int := (if c < 0 then -(c + 1) else c) % n
theorem pck_in {c n : Int} (hn : 0 < n) : 0 ≤ pck c n ∧ pck c n < n := ⟨Int.emod_nonneg _ (by omega), Int.emod_lt_of_pos _ hn⟩

set_option maxRecDepth 100000 in
set_option maxHeartbeats 1000000 in
theorem pick_any (c n : Int) (w : World) (h0 : -9223372036854775808 ≤ c) (h1 : c ≤ 9223372036854775807) (hn : 0 < n) (hn2 : n ≤ 9223372036854775807) :
    Calls Tryz.prog 14 #[.int .i64 c, .int .i64 n] w fun e w' => e = .returned (.int .i64 (pck c n)) ∧ w' = w := by
  by_cases hc : c < 0
  · have hp : pck c n = (-(c + 1)) % n := by unfold pck; rw [if_pos hc]
    have hp2 := pck_in (c := c) hn
    have ht : Int.tmod (-(c + 1)) n = pck c n := by rw [hp, Int.tmod_eq_emod_of_nonneg (by omega)]
    have hw1 : IntKind.i64.wrap (-(c + 1)) = -(c + 1) := by rw [IntKind.wrap_i64]; omega
    have hw2 : IntKind.i64.wrap (pck c n) = pck c n := by rw [IntKind.wrap_i64]; omega
    have hnz : ¬ n = 0 := by omega
    have hnz' : (n == 0) = false := by simpa using hnz
    go_enter Tryz.func14, Tryz.ntmps14
    go_wp2_with fail
    go_ret
    exact ⟨by first | rfl | (simp; done) | simp [hp], rfl⟩
  · have hp : pck c n = c % n := by unfold pck; rw [if_neg hc]
    have hp2 := pck_in (c := c) hn
    have ht : Int.tmod c n = pck c n := by rw [hp, Int.tmod_eq_emod_of_nonneg (by omega)]
    have hw2 : IntKind.i64.wrap (pck c n) = pck c n := by rw [IntKind.wrap_i64]; omega
    have hnz : ¬ n = 0 := by omega
    have hnz' : (n == 0) = false := by simpa using hnz
    go_enter Tryz.func14, Tryz.ntmps14
    go_wp2_with fail
    go_ret
    exact ⟨by first | rfl | (simp; done) | simp [hp], rfl⟩

end Go.Proofs.YtdchbenfccofpabGreatDoor
namespace Go.Proofs.YtdchbenfccofpabGreatDoor
open Go.RowKit Db

theorem LedAt.own_lt {w : World} {B p : Nat} {va vt : Value} {tv : List (Tn × Value)} {d : Dk} {s : Bk} (h : LedAt w B p va vt tv d s) : ∀ k, OwnB p va vt d.vw k → B ≤ k ∧ k < w.heap.size := by
  have own : ∀ {e : TypeId} {size : Nat} {v : Value} {n : Nat} {xs : List Value}, w.ownsRow B e size v n xs → ∀ k, v.ownBlock = some k → B ≤ k ∧ k < w.heap.size := by
    intro e size v n xs ho k hk
    obtain ⟨h1, cs, fz, h2⟩ := ownsRow_tg ho k hk
    exact ⟨h1, (Array.getElem?_eq_some_iff.1 h2).1⟩
  rintro k (rfl | hk | hk | hk)
  · exact ⟨h.lo, h.blk.lt⟩
  · exact own h.acs k hk
  · exact own h.txs.own k hk
  · exact own h.dsk k hk
/-- Two books, apart. -/
def Two (w : World) (B p p' : Nat) (s s' : Bk) : Prop := ∃ va vt tv d va' vt' tv' d', LedAt w B p va vt tv d s ∧ LedAt w B p' va' vt' tv' d' s' ∧ ∀ k, OwnB p va vt d.vw k → ¬ OwnB p' va' vt' d'.vw k
theorem Two.symm {w : World} {B p p' : Nat} {s s' : Bk} (h : Two w B p p' s s') : Two w B p' p s' s := by
  obtain ⟨va, vt, tv, d, va', vt', tv', d', h1, h2, h3⟩ := h
  exact ⟨va', vt', tv', d', va, vt, tv, d, h2, h1, fun k hk hk' => h3 k hk' hk⟩
theorem Two.left {w : World} {B p p' : Nat} {s s' : Bk} (h : Two w B p p' s s') : Led w B p s := by
  obtain ⟨va, vt, tv, d, va', vt', tv', d', h1, _, _⟩ := h; exact ⟨va, vt, tv, d, h1⟩
theorem Two.right {w : World} {B p p' : Nat} {s s' : Bk} (h : Two w B p p' s s') : Led w B p' s' := h.symm.left
theorem Two.kept {w w' : World} {B p p' : Nat} {s s' : Bk} (h : Two w B p p' s s') (hb : Below w.heap.size w w') : Two w' B p p' s s' := by
  obtain ⟨va, vt, tv, d, va', vt', tv', d', h1, h2, h3⟩ := h
  exact ⟨va, vt, tv, d, va', vt', tv', d', h1.kept hb, h2.kept hb, h3⟩
theorem LedAt.base' {w : World} {B B' p : Nat} {va vt : Value} {tv : List (Tn × Value)} {d : Dk} {s : Bk} (h : LedAt w B p va vt tv d s) (hB : B' ≤ B) : LedAt w B' p va vt tv d s :=
  ⟨h.blk, Nat.le_trans hB h.lo, ownsRow_base h.acs (fun k hk => Nat.le_trans hB (ownsRow_tg h.acs k hk).1), ⟨ownsRow_base h.txs.own (fun k hk => Nat.le_trans hB (ownsRow_tg h.txs.own k hk).1), fun x hx => ownsRow_base (h.txs.lns x hx) (fun k hk => Nat.le_trans hB (ownsRow_tg (h.txs.lns x hx) k hk).1)⟩, h.jr, h.good, ownsRow_base h.dsk (fun k hk => Nat.le_trans hB (ownsRow_tg h.dsk k hk).1), h.dlen, h.dcnt⟩
/-- A book that is made behind another one. -/
theorem Two.new {w w' : World} {B p p' : Nat} {s s' : Bk} (h : Led w B p s) (hB : B ≤ w.heap.size) (hb : Below w.heap.size w w') (h' : Led w' w.heap.size p' s') : Two w' B p p' s s' := by
  obtain ⟨va, vt, tv, d, h1⟩ := h
  obtain ⟨va', vt', tv', d', h2⟩ := h'
  refine ⟨va, vt, tv, d, va', vt', tv', d', h1.kept hb, h2.base' hB, fun k hk hk' => ?_⟩
  have a := (h1.own_lt k hk).2
  have b := (h2.own_lt k hk').1
  omega
theorem calledTwo_any (B p p' : Nat) (s s' : Bk) (kd a b : Int) (ao : Option Addr) (cap : Nat) (ls : List Ln) (w : World) (h : Two w B p p' s s') (hl : LinesAt w (.slice ao ls.length cap) ls) (hn : ls.length ≤ 8796093022000) :
    Calls Tryz.prog 29 #[.pointer (some ⟨p, 0, none⟩), .agg #[.int .i64 kd, .int .i64 a, .int .i64 b, .slice ao ls.length cap]] w fun e w' => e = .returned (.tuple #[.int .i64 (clE s kd a b ls).1, .int .i64 (clE s kd a b ls).2.1]) ∧ Two w' B p p' (clE s kd a b ls).2.2 s' ∧ FrT B tP w w' := by
  obtain ⟨va, vt, tv, ⟨u, vw, ws⟩, va', vt', tv', d', h1, h2, h3⟩ := h
  have hx : LedWx (OwnB p' va' vt' d'.vw) w B p u ws s := ⟨va, vt, tv, vw, h1, h3 p (.inl rfl), fun k hk => h3 k (.inr (.inl hk)), fun k hk => h3 k (.inr (.inr (.inl hk))), fun k hk => h3 k (.inr (.inr (.inr hk))), fun k hk => (h2.own_lt k hk).2⟩
  refine (calledX_any (OwnB p' va' vt' d'.vw) B p u ws s kd a b ao cap ls w hx hl hn).mono ?_
  rintro e w1 ⟨rfl, ⟨va1, vt1, tv1, vw1, k1⟩, k2⟩
  refine ⟨rfl, ⟨va1, vt1, tv1, _, va', vt', tv', d', k1.toLedAt, h2.keptF k2 (.inl rfl) (fun k hk => .inr (.inl hk)) (fun k hk => .inr (.inr (.inl hk))) (fun k hk => .inr (.inr (.inr hk))), ?_⟩, k2.fr⟩
  rintro k (rfl | hk | hk | hk)
  · exact k1.xp
  · exact k1.xa k hk
  · exact k1.xt k hk
  · exact k1.xw k hk
/-- One book, one text: one report. -/
theorem rep_uniq {b : Bk} {s u u' : ByteArray} {er er' : Int} (h : RepIs b s u er) (h' : RepIs b s u' er') : u' = u ∧ er' = er := by
  rcases h with ⟨h0, rfl, rfl⟩ | ⟨h0, rfl, h1, rfl⟩ | ⟨h0, pd, rows, pss, e0, pl, hf, ho, h⟩
  · rcases h' with ⟨_, rfl, rfl⟩ | ⟨k, _⟩ | ⟨k, _⟩
    · exact ⟨rfl, rfl⟩
    · omega
    · omega
  · rcases h' with ⟨k, _⟩ | ⟨_, rfl, _, rfl⟩ | ⟨_, pd, rows, pss, _, _, hf, _⟩
    · omega
    · exact ⟨rfl, rfl⟩
    · rw [hf.plc] at h1; omega
  · rcases h' with ⟨k, _⟩ | ⟨_, _, k, _⟩ | ⟨_, pd', rows', pss', e0', pl', hf', ho', h'⟩
    · omega
    · rw [hf.plc] at k; omega
    · obtain ⟨rfl, rfl⟩ := form_one hf hf'
      rw [ho] at ho'
      simp only [Prod.mk.injEq] at ho'
      obtain ⟨rfl, rfl⟩ := ho'
      rcases h with ⟨n, rfl, rfl⟩ | ⟨rfl, h1, rfl, rfl⟩ | ⟨rfl, h1, rfl, h2⟩
      · rcases h' with ⟨_, rfl, rfl⟩ | ⟨k, _⟩ | ⟨k, _⟩
        · exact ⟨rfl, rfl⟩
        · exact absurd k n
        · exact absurd k n
      · rcases h' with ⟨k, _⟩ | ⟨_, _, rfl, rfl⟩ | ⟨_, k, _⟩
        · exact absurd rfl k
        · exact ⟨rfl, rfl⟩
        · rw [h1] at k; cases k
      · rcases h' with ⟨k, _⟩ | ⟨_, k, _⟩ | ⟨_, _, rfl, k⟩
        · exact absurd rfl k
        · rw [h1] at k; cases k
        · exact ⟨L_inj (k.trans h2.symm), rfl⟩
end Go.Proofs.YtdchbenfccofpabGreatDoor
