/- Two books at once: a record is laid; Open, Close, Post with the disk. Two books at once: a step on one of them. Records beside others: the record's blocks lie outside of a set of blocks that is kept. Records beside others: Open. -/
import Derived.Test.YtdchbenfccofpabGreatDoorC13
import Derived.Deep.AppendLies
import Derived.Deep.RegionLaw
import Derived.Test.YtdchbenfccofpabGreatDoorC04
import Derived.Test.YtdchbenfccofpabGreatDoorC06
namespace Go.Proofs.YtdchbenfccofpabGreatDoor
open Go.RowKit Db

set_option maxRecDepth 100000 in
set_option maxHeartbeats 4000000 in
theorem layX_any (X : Nat → Prop) (B p u : Nat) (va vt vw : Value) (ws : List Wr) (k : Nat) (n d : Int) (v : Value) (ls : List Ln) (w : World) (hblk : Blk w p #[va, vt, .int .i64 (u : Int), vw] 82) (hB : B ≤ p) (how : w.ownsRow B 96 2 vw ws.length (cellsW ws)) (hwl : ws.length ≤ 2 * u) (hu : u ≤ 95) (hxp : ¬ X p) (hxw : ∀ k, vw.ownBlock = some k → ¬ X k) (top : ∀ k, X k → k < w.heap.size)
    (hk : k < 256) (hn : AmtOk n) (hd : AmtOk d) (hl : LinesAt w v ls) (h4 : ls.length ≤ 4) (hls : ∀ l ∈ ls, AmtOk l.1 ∧ AmtOk l.2) :
    Calls Tryz.prog 67 #[.pointer (some ⟨p, 2, none⟩), .agg #[.int .u8 (k : Int), .int .i64 n, .int .i64 d, v]] w fun e w' => e = .returned (.tuple #[]) ∧ (∃ vw', Blk w' p #[va, vt, .int .i64 ((u + 1 : Nat) : Int), vw'] 82 ∧ w'.ownsRow B 96 2 vw' (ws.length + 1 + 1) (cellsW (ws ++ [((u : Int), secB k n d ls), (-1, ⟨#[]⟩)])) ∧ ∀ k, vw'.ownBlock = some k → ¬ X k) ∧ FrX X B [82, 96] w w' := by
  obtain ⟨ii, hi, hz0, hz1, hz2⟩ := info_parts info_write
  obtain ⟨ao, cap, rfl⟩ := hl.form
  obtain ⟨aw, cw, rfl⟩ := ownsRow_form how
  obtain ⟨bx, hbx⟩ : ∃ bx, w.heap.size = bx := ⟨_, rfl⟩
  obtain ⟨W, hW⟩ : ∃ W, w.alloc (.cells #[.int .u8 (k : Int), .int .i64 n, .int .i64 d, .slice ao ls.length cap] 101) = W := ⟨_, rfl⟩
  have HX : Hid (Blk W bx #[.int .u8 (k : Int), .int .i64 n, .int .i64 d, .slice ao ls.length cap] 101) := by rw [← hW, ← hbx]; exact Blk.new _ _ _
  have Hb0 : Hid (Below w.heap.size w W) := by rw [← hW]; exact (Below.refl _ _).alloc (Nat.le_refl _) _
  have Hsec := hide (sector_any k n d _ ls W hk hn hd (hl.kept (unhide Hb0)) h4 hls)
  have HK0 := hide (hblk.kept (unhide Hb0))
  have HO0 := hide (ownsRow_below how (unhide Hb0))
  have x0 := (unhide HX).cell 0
  have x1 := (unhide HX).cell 1
  have x2 := (unhide HX).cell 2
  have x3 := (unhide HX).cell 3
  simp only [List.getElem?_toArray, List.getElem?_cons_zero, List.getElem?_cons_succ] at x0 x1 x2 x3
  obtain ⟨sx, hsx⟩ : ∃ sx, secB k n d ls = sx := ⟨_, rfl⟩
  rw [hsx] at Hsec ⊢
  have Htop := hide top
  have Hxw : Hid (∀ k, (Value.slice aw ws.length cw).ownBlock = some k → ¬ X k) := hxw
  clear hblk how hn hd hl hls hsx hk top hxw
  go_enter Tryz.func67, Tryz.ntmps67
  go_wp2_with fail
  try rw [hW]
  try rw [hbx]
  clear hW hbx
  refine (unhide Hsec).mono ?_
  rintro e w1 ⟨rfl, hb1⟩
  have HK1 := hide ((unhide HK0).kept hb1)
  have HO1 := hide (ownsRow_below (unhide HO0) hb1)
  have HF1 : Hid (FrX X B [82, 96] w w1) := (FrX.of_below (unhide Hb0)).then hb1
  have c2 := (unhide HK1).cell 2
  have c3 := (unhide HK1).cell 3
  have z3 := (unhide HK1).frozen 3
  have lq := (unhide HK1).lt
  simp only [List.getElem?_toArray, List.getElem?_cons_zero, List.getElem?_cons_succ] at c2 c3
  have hBw : B ≤ w1.heap.size := by omega
  have Hnb : Hid (Blk (w1.alloc (.cells #[.int .i64 (u : Int), .string sx] 96)) w1.heap.size #[.int .i64 (u : Int), .string sx] 96) := Blk.new _ _ _
  have hne1 : w1.heap.size ≠ p := by omega
  have hws : w.heap.size ≤ w1.heap.size := (unhide HF1).fr.size
  clear hb1 x0 x1 x2 x3
  go_upto_region 2 with fail
  go_region_law (refine step_append_lies _ rfl (.tmp 11) (.tmp 18) 47 rfl B 96 ii (.agg #[.int .i64 0, .string ⟨#[]⟩]) 2 24 Tryz.underlying47 hi hz0 hz1 hz2 rfl (by decide) (.slice aw ws.length cw) ws.length _ (by simp [Act.eval]) (by first | exact ((unhide HO1).alloc _).drew | exact ((unhide HO1).alloc _)) ⟨w1.heap.size, 0, none⟩ 1 1 [.int .i64 (u : Int), .string sx] (by simp [Act.eval]) rfl (World.news_of_block (by exact unhide Hnb)) (fun x hx => by simp at hx; rcases hx with rfl | rfl <;> rfl) (by decide) (by unfold maxLen; omega) (by omega) (by simp <;> omega) (w1.heap.size + 1) (by simp) ?_; intro gf cf w5 hown5 hgr5 hat5 hlt5; have hblk5 := Blk.grown (cs := #[va, vt, .int .i64 (u : Int), .slice aw ws.length cw]) (T := 82) (b := p) (by exact ((unhide HK1).alloc _)) hgr5 (blk_own_ne (unhide HK1) (unhide HO1) (by decide)); have c5 := hblk5.cell 3; have z5 := hblk5.frozen 3; have e5 := hblk5.cell 2; have y5 := hblk5.frozen 2; have l5 := hblk5.lt; simp only [List.getElem?_toArray, List.getElem?_cons_zero, List.getElem?_cons_succ] at c5 e5; have Hblk5 := hide hblk5; have Hown5 := hide hown5; have Hgr5 := hide hgr5; have Hx5 : Hid (¬ X gf) := (by intro hX; rcases hat5 with e | e; exact unhide Hxw gf e hX; have := unhide Htop gf hX; omega); clear hblk5 hown5 hgr5 hat5)
  all_goals
    have Hf1 : Hid (FrX X B [96] w1 w5) := ((((FrX.refl _ _ w1).alloc _).drew).grown (unhide Hgr5) (T := 96) (by simp) (fun j hj => ⟨(ownsRow_tg (unhide HO1) j hj).1, tg_alloc (ownsRow_tg (unhide HO1) j hj).2 _⟩) (unhide Hxw))
    have hs5 : w1.heap.size ≤ w5.heap.size := (unhide Hf1).fr.size
    have Hown6 := hide (fun v => ownsRow_frT (unhide Hown5) ((FrT.refl B [82] w5).setCell (p := ⟨p, 3, none⟩) (T := 82) (by simp) (unhide Hblk5).tg hB v) (by decide))
    have Hblk6 := hide (fun v => (unhide Hblk5).set 3 v)
    go_wp2_with (first
      | (at_builtin; refine wpList_append_own_at _ rfl (.tmp 26) (.tmp 28) 47 rfl B 96 ii (.agg #[.int .i64 0, .string ⟨#[]⟩]) 2 24 Tryz.underlying47 hi hz0 hz1 hz2 rfl (by decide) (.slice (some ⟨gf, 0, none⟩) (ws.length + 1) cf) (ws.length + 1) _ rfl ((unhide Hown6 _).alloc _) ⟨w5.heap.size, 0, none⟩ 1 1 [.int .i64 (-1), .string ⟨#[]⟩] rfl rfl (new2 _ _ (by simp [World.setCell]) _ _ _) (fun x hx => by simp at hx; rcases hx with rfl | rfl <;> rfl) (by unfold maxLen; omega) (by omega) (by simp [World.setCell]; omega) ?_; intro vq' w6 hown6 hgr6 _ hat6; obtain ⟨gh, ch, rfl, hgh, hgh'⟩ := ownsRow_some hown6 (Nat.succ_pos _); have hblk6 := ((unhide Hblk6 _).alloc _).grown hgr6 (blk_own_ne (unhide Hblk6 vt) (unhide Hown6 vt) (by decide)); simp only [List.setIfInBounds_toArray, List.set_cons_zero, List.set_cons_succ] at hblk6; have c6 := hblk6.cell 3; have z6 := hblk6.frozen 3; have l6 := hblk6.lt; have e6 := hblk6.cell 2; have y6 := hblk6.frozen 2; simp only [List.getElem?_toArray, List.getElem?_cons_zero, List.getElem?_cons_succ] at c6 e6; have Hbl6 := hide hblk6; have Hown6' := hide hown6; have Hgr6 := hide hgr6; have Hat6 := hide hat6; clear hblk6 hown6 hgr6 hat6))
    go_end0
    have hx6 : ¬ X gh := by
      intro hX
      rcases unhide Hat6 with e | e
      · simp only [Value.ownBlock, Option.some.injEq] at e; subst e; exact unhide Hx5 hX
      · simp [Value.ownBlock, World.setCell] at e; have := unhide Htop _ hX; omega
    have g1 := (FrX.refl (X := X) B [82, 96] w5).setCell (p := ⟨p, 3, none⟩) (T := 82) (by simp) (unhide Hblk5).tg hB hxp (.slice (some ⟨gf, 0, none⟩) (ws.length + 1) cf)
    have g2 := (g1.alloc (.cells #[.int .i64 (-1), .string ⟨#[]⟩] 96)).grown (unhide Hgr6) (T := 96) (by simp) (fun j hj => ⟨(ownsRow_tg (unhide Hown6 vt) j hj).1, tg_alloc (ownsRow_tg (unhide Hown6 (.slice (some ⟨gf, 0, none⟩) (ws.length + 1) cf)) j hj).2 _⟩) (fun j hj => by simp only [Value.ownBlock, Option.some.injEq] at hj; subst hj; exact unhide Hx5)
    have b7 := (unhide Hbl6).set 3 (.slice (some ⟨gh, 0, none⟩) (ws.length + 1 + 1) ch)
    have b8 := b7.set 2 (.int .i64 ((u + 1 : Nat) : Int))
    simp only [List.setIfInBounds_toArray, List.set_cons_zero, List.set_cons_succ] at b8
    have g3 := (g2.setCell (p := ⟨p, 3, none⟩) (T := 82) (by simp) (unhide Hbl6).tg hB hxp (.slice (some ⟨gh, 0, none⟩) (ws.length + 1 + 1) ch)).setCell (p := ⟨p, 2, none⟩) (T := 82) (by simp) b7.tg hB hxp (.int .i64 ((u + 1 : Nat) : Int))
    have g4 := ((FrT.refl B [82] w6).setCell (p := ⟨p, 3, none⟩) (T := 82) (by simp) (unhide Hbl6).tg hB (.slice (some ⟨gh, 0, none⟩) (ws.length + 1 + 1) ch)).setCell (p := ⟨p, 2, none⟩) (T := 82) (by simp) b7.tg hB (.int .i64 ((u + 1 : Nat) : Int))
    refine ⟨rfl, ⟨_, b8, ?_, fun k hk => by simp only [Value.ownBlock, Option.some.injEq] at hk; subst hk; exact hx6⟩, ((unhide HF1).trans ((unhide Hf1).mono (by simp))).trans g3⟩
    have := ownsRow_frT (unhide Hown6') g4 (by decide)
    simpa [cellsW] using this


theorem LedAx.laidX {X : Nat → Prop} {w w2 : World} {B p u : Nat} {va vt vw vw' : Value} {tv : List (Tn × Value)} {ws : List Wr} {s : Bk} {x : ByteArray} (h : LedAx X w B p va vt tv ⟨u, vw, ws⟩ s) (hc : u < cnt s) (hb : Blk w2 p #[va, vt, .int .i64 ((u + 1 : Nat) : Int), vw'] 82)
    (ho : w2.ownsRow B 96 2 vw' (ws.length + 1 + 1) (cellsW (ws ++ [((u : Int), x), (-1, ⟨#[]⟩)]))) (hf : FrX X B [82, 96] w w2) (hx : ∀ k, vw'.ownBlock = some k → ¬ X k) : LedAx X w2 B p va vt tv ⟨u + 1, vw', ws ++ [((u : Int), x), (-1, ⟨#[]⟩)]⟩ s :=
  ⟨h.toLedAt.laid hc hb ho hf.fr, h.xp, h.xa, h.xt, hx, fun k hk => Nat.lt_of_lt_of_le (h.top k hk) hf.fr.size⟩

set_option maxRecDepth 100000 in
set_option maxHeartbeats 2000000 in
theorem dayOpenX_any (X : Nat → Prop) (B p u : Nat) (ws : List Wr) (s : Bk) (a : Int) (w : World) (h : LedWx X w B p u ws s) :
    Calls Tryz.prog 46 #[.pointer (some ⟨p, 0, none⟩), .int .i64 a] w fun e w' => e = .returned (.tuple #[.int .i64 (opn s a).1, .int .i64 (opn s a).2.1]) ∧ LedWx X w' B p (dkU (decide ((opn s a).2.1 = 0)) u) (dkW (decide ((opn s a).2.1 = 0)) u (secB 1 a 0 []) ws) (opn s a).2.2 ∧ FrX X B tP w w' := by
  obtain ⟨va, vt, tv, vw, h⟩ := h
  have hg := h.good
  have hcn := h.dcnt
  have hbd := cnt_bound hg
  simp only at hcn
  have Hc := hide (ledOpenX_any X B p ⟨u, vw, ws⟩ s a w ⟨va, vt, tv, h⟩)
  have hor := opn_cnt hg a
  obtain ⟨⟨x, y, s'⟩, hr⟩ : ∃ r, opn s a = r := ⟨_, rfl⟩
  rw [hr] at Hc hor ⊢
  simp only at Hc hor ⊢
  clear h hr hg
  rcases hor with ⟨rfl, h0, h1, h2⟩ | ⟨hy, rfl⟩
  · simp only [decide_true]
    have hn : AmtOk a := ⟨by omega, by omega⟩
    have hz : AmtOk 0 := ⟨by omega, by omega⟩
    have hlt : u < cnt s' := by omega
    have hu : u ≤ 95 := by omega
    go_enter Tryz.func46, Tryz.ntmps46
    go_wp2_with fail
    refine (unhide Hc).mono ?_
    rintro e w1 ⟨rfl, ⟨va1, vt1, tv1, k1⟩, k2⟩
    have HL := hide (layX_any X B p u va1 vt1 vw ws 1 a 0 _ [] w1 k1.blk k1.lo k1.dsk k1.dlen hu k1.xp k1.xw k1.top (by omega) hn hz (LinesAt.nil w1) (by simp) (by simp))
    have K1 := hide k1
    have K2 := hide k2
    clear k1 k2 Hc
    go_wp2_with fail
    refine (unhide HL).mono ?_
    rintro e w2 ⟨rfl, ⟨vw2, j1, j2, j4⟩, j3⟩
    have HF : Hid (LedWx X w2 B p (u + 1) (ws ++ [((u : Int), secB 1 a 0 []), (-1, ⟨#[]⟩)]) s' ∧ FrX X B tP w w2) := ⟨⟨_, _, _, _, (unhide K1).laidX hlt j1 j2 j3 j4⟩, (unhide K2).trans (j3.mono (by simp [tP]))⟩
    clear j1 j2 j3 j4 HL K1 K2
    go_wp2_with fail
    go_ret2
    exact ⟨rfl, (unhide HF).1, (unhide HF).2⟩
  · have hd : decide (y = 0) = false := by simpa using hy
    have hye : (y == 0) = false := by simpa using hy
    rw [hd]
    go_enter Tryz.func46, Tryz.ntmps46
    go_wp2_with fail
    refine (unhide Hc).mono ?_
    rintro e w1 ⟨rfl, ⟨va1, vt1, tv1, k1⟩, k2⟩
    have K1 := hide k1
    have K2 := hide k2
    clear k1 k2 Hc
    go_wp2_with fail
    go_ret2
    exact ⟨rfl, ⟨_, _, _, _, unhide K1⟩, unhide K2⟩


set_option maxRecDepth 100000 in
set_option maxHeartbeats 2000000 in
theorem dayCloseX_any (X : Nat → Prop) (B p u : Nat) (ws : List Wr) (s : Bk) (a : Int) (w : World) (h : LedWx X w B p u ws s) :
    Calls Tryz.prog 47 #[.pointer (some ⟨p, 0, none⟩), .int .i64 a] w fun e w' => e = .returned (.int .i64 (cls s a).1) ∧ LedWx X w' B p (dkU (decide ((cls s a).1 = 0)) u) (dkW (decide ((cls s a).1 = 0)) u (secB 2 a 0 []) ws) (cls s a).2 ∧ FrX X B tP w w' := by
  obtain ⟨va, vt, tv, vw, h⟩ := h
  have hg := h.good
  have hcn := h.dcnt
  have hbd := cnt_bound hg
  simp only at hcn
  have Hc := hide (ledCloseX_any X B p ⟨u, vw, ws⟩ s a w ⟨va, vt, tv, h⟩)
  have hor := cls_cnt hg a
  obtain ⟨⟨y, s'⟩, hr⟩ : ∃ r, cls s a = r := ⟨_, rfl⟩
  rw [hr] at Hc hor ⊢
  simp only at Hc hor ⊢
  clear h hr hg
  rcases hor with ⟨rfl, h0, h1, h2⟩ | ⟨hy, rfl⟩
  · simp only [decide_true]
    have hn : AmtOk a := ⟨by omega, by omega⟩
    have hz : AmtOk 0 := ⟨by omega, by omega⟩
    have hlt : u < cnt s' := by omega
    have hu : u ≤ 95 := by omega
    go_enter Tryz.func47, Tryz.ntmps47
    go_wp2_with fail
    refine (unhide Hc).mono ?_
    rintro e w1 ⟨rfl, ⟨va1, vt1, tv1, k1⟩, k2⟩
    have HL := hide (layX_any X B p u va1 vt1 vw ws 2 a 0 _ [] w1 k1.blk k1.lo k1.dsk k1.dlen hu k1.xp k1.xw k1.top (by omega) hn hz (LinesAt.nil w1) (by simp) (by simp))
    have K1 := hide k1
    have K2 := hide k2
    clear k1 k2 Hc
    go_wp2_with fail
    refine (unhide HL).mono ?_
    rintro e w2 ⟨rfl, ⟨vw2, j1, j2, j4⟩, j3⟩
    have HF : Hid (LedWx X w2 B p (u + 1) (ws ++ [((u : Int), secB 2 a 0 []), (-1, ⟨#[]⟩)]) s' ∧ FrX X B tP w w2) := ⟨⟨_, _, _, _, (unhide K1).laidX hlt j1 j2 j3 j4⟩, (unhide K2).trans (j3.mono (by simp [tP]))⟩
    clear j1 j2 j3 j4 HL K1 K2
    go_wp2_with fail
    go_ret
    exact ⟨rfl, (unhide HF).1, (unhide HF).2⟩
  · have hd : decide (y = 0) = false := by simpa using hy
    have hye : (y == 0) = false := by simpa using hy
    rw [hd]
    go_enter Tryz.func47, Tryz.ntmps47
    go_wp2_with fail
    refine (unhide Hc).mono ?_
    rintro e w1 ⟨rfl, ⟨va1, vt1, tv1, k1⟩, k2⟩
    have K1 := hide k1
    have K2 := hide k2
    clear k1 k2 Hc
    go_wp2_with fail
    go_ret
    exact ⟨rfl, ⟨_, _, _, _, unhide K1⟩, unhide K2⟩


set_option maxRecDepth 100000 in
set_option maxHeartbeats 2000000 in
theorem dayPostX_any (X : Nat → Prop) (B p u : Nat) (ws : List Wr) (s : Bk) (id day : Int) (v : Value) (ls : List Ln) (w : World) (va vt vw : Value) (tv : List (Tn × Value)) (h : LedAx X w B p va vt tv ⟨u, vw, ws⟩ s) (hl : LinesAt w v ls) (hty : ∀ k, v.ownBlock = some k → Tg w k 84) :
    Calls Tryz.prog 49 #[.pointer (some ⟨p, 0, none⟩), .int .i64 id, .int .i64 day, v] w fun e w' => e = .returned (.int .i64 (pst s id day ls).1) ∧ LedWx X w' B p (dkU (isN s id day ls) u) (dkW (isN s id day ls) u (secB 3 id day ls) ws) (pst s id day ls).2 ∧ FrX X B tP w w' := by
  have hg := h.good
  have hcn := h.dcnt
  have hbd := cnt_bound hg
  have hfew := hg.few
  simp only at hcn
  have Hc := hide (ledPostX_any X B p s id day v ls w va vt tv ⟨u, vw, ws⟩ h hl)
  have hor := pst_cnt hg id day ls
  obtain ⟨ao, cap, rfl⟩ := hl.form
  have Hl := hide hl
  have Hty := hide hty
  obtain ⟨⟨y, s'⟩, hr⟩ : ∃ r, pst s id day ls = r := ⟨_, rfl⟩
  rw [hr] at Hc hor ⊢
  obtain ⟨nw, hnw⟩ : ∃ r, isN s id day ls = r := ⟨_, rfl⟩
  rw [hnw] at Hc hor ⊢
  simp only at Hc hor ⊢
  clear h hr hg hl hty hnw
  rcases hor with ⟨rfl, rfl, h0, h1, h2, h3, h4, h5, h6, h7⟩ | ⟨rfl, rfl⟩
  · have hn : AmtOk id := ⟨by omega, by omega⟩
    have hz : AmtOk day := ⟨by omega, by omega⟩
    have hlt : u < cnt s' := by omega
    have hu : u ≤ 95 := by omega
    have Hls : Hid (∀ l ∈ ls, AmtOk l.1 ∧ AmtOk l.2) := fun l hl => by have := h5 l hl; exact ⟨⟨by omega, by omega⟩, ⟨by omega, by omega⟩⟩
    clear h5 h6
    go_enter Tryz.func49, Tryz.ntmps49
    go_wp2_with fail
    refine (unhide Hc).mono ?_
    rintro e w1 ⟨rfl, ⟨va1, vt1, tv1, k1⟩, k2⟩
    have HL := hide (layX_any X B p u va1 vt1 vw ws 3 id day _ ls w1 k1.blk k1.lo k1.dsk k1.dlen hu k1.xp k1.xw k1.top (by omega) hn hz ((unhide Hl).frTy k2.fr (unhide Hty) (by decide)) h4 (unhide Hls))
    have K1 := hide k1
    have K2 := hide k2
    clear k1 k2 Hc
    go_wp2_with fail
    refine (unhide HL).mono ?_
    rintro e w2 ⟨rfl, ⟨vw2, j1, j2, j4⟩, j3⟩
    have HF : Hid (LedWx X w2 B p (u + 1) (ws ++ [((u : Int), secB 3 id day ls), (-1, ⟨#[]⟩)]) s' ∧ FrX X B tP w w2) := ⟨⟨_, _, _, _, (unhide K1).laidX hlt j1 j2 j3 j4⟩, (unhide K2).trans (j3.mono (by simp [tP]))⟩
    clear j1 j2 j3 j4 HL K1 K2
    go_wp2_with fail
    go_ret
    exact ⟨rfl, (unhide HF).1, (unhide HF).2⟩
  · go_enter Tryz.func49, Tryz.ntmps49
    go_wp2_with fail
    refine (unhide Hc).mono ?_
    rintro e w1 ⟨rfl, ⟨va1, vt1, tv1, k1⟩, k2⟩
    have K1 := hide k1
    have K2 := hide k2
    clear k1 k2 Hc
    go_wp2_with fail
    go_ret
    exact ⟨rfl, ⟨_, _, _, _, unhide K1⟩, unhide K2⟩


end Go.Proofs.YtdchbenfccofpabGreatDoor
namespace Go.Proofs.YtdchbenfccofpabGreatDoor
open Go.RowKit Db

set_option maxRecDepth 100000 in
set_option maxHeartbeats 4000000 in
theorem calledX_any (X : Nat → Prop) (B p u : Nat) (ws : List Wr) (s : Bk) (kd a b : Int) (ao : Option Addr) (cap : Nat) (ls : List Ln) (w : World) (h : LedWx X w B p u ws s) (hl : LinesAt w (.slice ao ls.length cap) ls) (hn : ls.length ≤ 8796093022000) :
    Calls Tryz.prog 29 #[.pointer (some ⟨p, 0, none⟩), .agg #[.int .i64 kd, .int .i64 a, .int .i64 b, .slice ao ls.length cap]] w fun e w' => e = .returned (.tuple #[.int .i64 (clE s kd a b ls).1, .int .i64 (clE s kd a b ls).2.1]) ∧ LedWx X w' B p (dkU (clY s kd a b ls) u) (dkW (clY s kd a b ls) u (clX kd a b ls) ws) (clE s kd a b ls).2.2 ∧ FrX X B tP w w' := by
  obtain ⟨bx, hbx⟩ : ∃ bx, w.heap.size = bx := ⟨_, rfl⟩
  obtain ⟨W, hW⟩ : ∃ W, w.alloc (.cells #[.int .i64 kd, .int .i64 a, .int .i64 b, .slice ao ls.length cap] 44) = W := ⟨_, rfl⟩
  have HX : Hid (Blk W bx #[.int .i64 kd, .int .i64 a, .int .i64 b, .slice ao ls.length cap] 44) := by rw [← hW, ← hbx]; exact Blk.new _ _ _
  have Hb0 : Hid (Below w.heap.size w W) := by rw [← hW]; exact (Below.refl _ _).alloc (Nat.le_refl _) _
  have H0 : Hid (LedWx X W B p u ws s) := by
    obtain ⟨va, vt, tv, vw, h1⟩ := h
    exact ⟨_, _, _, _, h1.keptX (unhide Hb0)⟩
  have Hl0 := hide (hl.kept (unhide Hb0))
  have x0 := (unhide HX).cell 0
  have x1 := (unhide HX).cell 1
  have x3 := (unhide HX).cell 3
  simp only [List.getElem?_toArray, List.getElem?_cons_zero, List.getElem?_cons_succ] at x0 x1 x3
  clear h hl
  by_cases h1 : kd = 1
  · subst h1
    have Hop := hide (dayOpenX_any X B p u ws s a W (unhide H0))
    have hcl : clE s 1 a b ls = opn s a := rfl
    have hyl : clY s 1 a b ls = decide ((opn s a).2.1 = 0) := rfl
    have hxl : clX 1 a b ls = secB 1 a 0 [] := rfl
    rw [hcl, hyl, hxl]
    clear hcl hyl hxl
    obtain ⟨⟨x, y, s'⟩, hr⟩ : ∃ r, opn s a = r := ⟨_, rfl⟩
    rw [hr] at Hop ⊢
    simp only at Hop ⊢
    obtain ⟨u', hu'⟩ : ∃ u', dkU (decide (y = 0)) u = u' := ⟨_, rfl⟩
    obtain ⟨ws', hws'⟩ : ∃ ws', dkW (decide (y = 0)) u (secB 1 a 0 []) ws = ws' := ⟨_, rfl⟩
    rw [hu', hws'] at Hop ⊢
    clear hr hu' hws'
    go_enter Tryz.func29, Tryz.ntmps29
    go_wp2_with fail
    try rw [hW]
    refine (unhide Hop).mono ?_
    rintro e w1 ⟨rfl, k1, k2⟩
    have HF : Hid (LedWx X w1 B p u' ws' s' ∧ FrX X B tP w w1) := ⟨k1, (FrX.of_below (unhide Hb0)).trans k2⟩
    clear k1 k2
    go_wp2_with fail
    go_ret2
    exact ⟨rfl, (unhide HF).1, (unhide HF).2⟩
  by_cases h2 : kd = 2
  · subst h2
    have Hop := hide (dayCloseX_any X B p u ws s a W (unhide H0))
    have hcl : clE s 2 a b ls = (0, (cls s a).1, (cls s a).2) := rfl
    have hyl : clY s 2 a b ls = decide ((cls s a).1 = 0) := rfl
    have hxl : clX 2 a b ls = secB 2 a 0 [] := rfl
    rw [hcl, hyl, hxl]
    clear hcl hyl hxl
    obtain ⟨⟨y, s'⟩, hr⟩ : ∃ r, cls s a = r := ⟨_, rfl⟩
    rw [hr] at Hop ⊢
    simp only at Hop ⊢
    obtain ⟨u', hu'⟩ : ∃ u', dkU (decide (y = 0)) u = u' := ⟨_, rfl⟩
    obtain ⟨ws', hws'⟩ : ∃ ws', dkW (decide (y = 0)) u (secB 2 a 0 []) ws = ws' := ⟨_, rfl⟩
    rw [hu', hws'] at Hop ⊢
    clear hr h1 hu' hws'
    go_enter Tryz.func29, Tryz.ntmps29
    go_wp2_with fail
    try rw [hW]
    refine (unhide Hop).mono ?_
    rintro e w1 ⟨rfl, k1, k2⟩
    have HF : Hid (LedWx X w1 B p u' ws' s' ∧ FrX X B tP w w1) := ⟨k1, (FrX.of_below (unhide Hb0)).trans k2⟩
    clear k1 k2
    go_wp2_with fail
    go_ret2
    exact ⟨rfl, (unhide HF).1, (unhide HF).2⟩
  by_cases h3 : kd = 3
  · subst h3
    have Hop : Hid (∀ (wx : World) (v : Value), Below W.heap.size W wx → LinesAt wx v ls → (∀ k, v.ownBlock = some k → Tg wx k 84) → Calls Tryz.prog 49 #[.pointer (some ⟨p, 0, none⟩), .int .i64 a, .int .i64 b, v] wx fun e w' => e = .returned (.int .i64 (pst s a b ls).1) ∧ LedWx X w' B p (dkU (isN s a b ls) u) (dkW (isN s a b ls) u (secB 3 a b ls) ws) (pst s a b ls).2 ∧ FrX X B tP W w') := by
      intro wx v hb hl hty
      obtain ⟨va, vt, tv, vw, h1⟩ := unhide H0
      refine (dayPostX_any X B p u ws s a b v ls wx _ _ _ _ (h1.keptX hb) hl hty).mono ?_
      rintro e w1 ⟨rfl, k1, k2⟩
      exact ⟨rfl, k1, (FrX.of_below hb).trans k2⟩
    have hcl : clE s 3 a b ls = (0, (pst s a b ls).1, (pst s a b ls).2) := rfl
    have hyl : clY s 3 a b ls = isN s a b ls := rfl
    have hxl : clX 3 a b ls = secB 3 a b ls := rfl
    rw [hcl, hyl, hxl]
    clear hcl hyl hxl
    obtain ⟨⟨y, s'⟩, hr⟩ : ∃ r, pst s a b ls = r := ⟨_, rfl⟩
    rw [hr] at Hop ⊢
    simp only at Hop ⊢
    obtain ⟨u', hu'⟩ : ∃ u', dkU (isN s a b ls) u = u' := ⟨_, rfl⟩
    obtain ⟨ws', hws'⟩ : ∃ ws', dkW (isN s a b ls) u (secB 3 a b ls) ws = ws' := ⟨_, rfl⟩
    rw [hu', hws'] at Hop ⊢
    clear hr h1 h2 hu' hws'
    go_enter Tryz.func29, Tryz.ntmps29
    go_wp2_with fail
    try rw [hW]
    try rw [hbx]
    clear hW hbx
    refine (copied_any _ ls _ (unhide Hl0) hn).mono ?_
    rintro e w1 ⟨rfl, k1, k2⟩
    have y1 := ((unhide HX).kept k2).cell 1
    have y2 := ((unhide HX).kept k2).cell 2
    simp only [List.getElem?_toArray, List.getElem?_cons_zero, List.getElem?_cons_succ] at y1 y2
    have Hp := hide (unhide Hop w1 _ k2 (LinesAt.of_blk (cap := ls.length) k1) (fun k hk => by simp only [Value.ownBlock, Option.some.injEq] at hk; subst hk; exact k1.tg))
    clear k1 k2 x0 x1 x3
    go_wp2_with fail
    refine (unhide Hp).mono ?_
    rintro e w2 ⟨rfl, k1, k2⟩
    have HF : Hid (LedWx X w2 B p u' ws' s' ∧ FrX X B tP w w2) := ⟨k1, (FrX.of_below (unhide Hb0)).trans k2⟩
    clear k1 k2
    go_wp2_with fail
    go_ret2
    exact ⟨rfl, (unhide HF).1, (unhide HF).2⟩
  have hcl : clE s kd a b ls = (0, 0, s) := by unfold clE; rw [if_neg h1, if_neg h2, if_neg h3]
  have hyl : clY s kd a b ls = false := by unfold clY; rw [if_neg h1, if_neg h2, if_neg h3]
  rw [hcl, hyl]
  have n1 : (kd == 1) = false := by simpa using h1
  have n2 : (kd == 2) = false := by simpa using h2
  have n3 : (kd == 3) = false := by simpa using h3
  clear hcl hyl h1 h2 h3
  go_enter Tryz.func29, Tryz.ntmps29
  go_wp2_with fail
  go_ret2
  exact ⟨rfl, unhide H0, FrX.of_below (unhide Hb0)⟩


/-- The blocks that a book writes to. -/
def OwnB (p : Nat) (va vt vw : Value) (k : Nat) : Prop := k = p ∨ va.ownBlock = some k ∨ vt.ownBlock = some k ∨ vw.ownBlock = some k
end Go.Proofs.YtdchbenfccofpabGreatDoor
namespace Go.RowKit
theorem FrX.drewN {X : Nat → Prop} {B : Nat} {Ts : List TypeId} {a b : World} (h : FrX X B Ts a b) (n : Nat) : FrX X B Ts a (b.drewN n) := ⟨h.fr.drewN n, h.keep⟩
end Go.RowKit
namespace Go.Proofs.YtdchbenfccofpabGreatDoor
open Go.RowKit Db

structure RecAx (X : Nat → Prop) (w : World) (B p : Nat) (vp vc vt : Value) (tv : List (Tn × Value)) (s : Bk) : Prop extends RecAt w B p vp vc vt tv s where
  xq : ¬ X p
  xp : ∀ k, vp.ownBlock = some k → ¬ X k
  xc : ∀ k, vc.ownBlock = some k → ¬ X k
  xt : ∀ k, vt.ownBlock = some k → ¬ X k
  top : ∀ k, X k → k < w.heap.size
def Recx (X : Nat → Prop) (w : World) (B p : Nat) (s : Bk) : Prop := ∃ vp vc vt tv, RecAx X w B p vp vc vt tv s
theorem Recx.rec' {X : Nat → Prop} {w : World} {B p : Nat} {s : Bk} (h : Recx X w B p s) : Rec w B p s := by obtain ⟨vp, vc, vt, tv, h⟩ := h; exact ⟨vp, vc, vt, tv, h.toRecAt⟩
theorem RecAx.keptX {X : Nat → Prop} {w w' : World} {B p : Nat} {vp vc vt : Value} {tv : List (Tn × Value)} {s : Bk} (h : RecAx X w B p vp vc vt tv s) (hb : Below w.heap.size w w') : RecAx X w' B p vp vc vt tv s :=
  ⟨h.toRecAt.kept hb, h.xq, h.xp, h.xc, h.xt, fun k hk => Nat.lt_of_lt_of_le (h.top k hk) hb.size⟩
theorem Recx.keptX {X : Nat → Prop} {w w' : World} {B p : Nat} {s : Bk} (h : Recx X w B p s) (hb : Below w.heap.size w w') : Recx X w' B p s := by obtain ⟨vp, vc, vt, tv, h⟩ := h; exact ⟨vp, vc, vt, tv, h.keptX hb⟩
theorem RecAx.drewNX {X : Nat → Prop} {w : World} {B p : Nat} {vp vc vt : Value} {tv : List (Tn × Value)} {s : Bk} (h : RecAx X w B p vp vc vt tv s) (n : Nat) : RecAx X (w.drewN n) B p vp vc vt tv s := h.keptX ((Below.refl _ _).drewN n)
/-- A record whose blocks are kept. -/
theorem RecAt.keptF {X : Nat → Prop} {w w' : World} {B B' p : Nat} {vp vc vt : Value} {tv : List (Tn × Value)} {s : Bk} {Ts : List TypeId} (h : RecAt w B p vp vc vt tv s) (hf : FrX X B' Ts w w') (hl : 84 ∉ Ts) (hq : X p) (hp : ∀ k, vp.ownBlock = some k → X k) (hc : ∀ k, vc.ownBlock = some k → X k) (ht : ∀ k, vt.ownBlock = some k → X k) : RecAt w' B p vp vc vt tv s := by
  have own : ∀ {e : TypeId} {size : Nat} {v : Value} {n : Nat} {xs : List Value}, w.ownsRow B e size v n xs → (∀ k, v.ownBlock = some k → X k) → w'.ownsRow B e size v n xs := by
    intro e size v n xs ho hx
    refine ⟨ho.1, ?_⟩
    rcases ho.2 with hn | ⟨g, cap, cur, rfl, hbg, hgg, rest⟩
    · exact .inl hn
    · refine .inr ⟨g, cap, cur, rfl, hbg, ?_, rest⟩
      rw [hf.keep g (hx g rfl) (Array.getElem?_eq_some_iff.1 hgg).1]
      exact hgg
  refine ⟨?_, h.lo, own h.par hp, own h.clo hc, ⟨own h.txs.own ht, fun x hx => ownsRow_frT (h.txs.lns x hx) hf.fr hl⟩, h.jr, h.good⟩
  have hlt := h.blk.lt
  have hb := h.blk
  unfold Blk at hb ⊢
  rw [hf.keep p hq hlt]; exact hb

theorem RecAx.shut {X : Nat → Prop} {w : World} {B p g cap k : Nat} {vp vt : Value} {tv : List (Tn × Value)} {s : Bk} {c : Ac} (h : RecAx X w B p vp (.slice (some ⟨g, 0, none⟩) s.acs.length cap) vt tv s) (hc : s.acs[k]? = some c) (hg : BkGood { s with acs := s.acs.set k (c.1, true) }) :
    RecAx X (w.setCell ⟨g, k, none⟩ (.bool true)) B p vp (.slice (some ⟨g, 0, none⟩) s.acs.length cap) vt tv { s with acs := s.acs.set k (c.1, true) } ∧ FrX X B tK w (w.setCell ⟨g, k, none⟩ (.bool true)) := by
  have ht := ownsRow_tg h.clo g rfl
  have f1 : FrX X B [4] w (w.setCell ⟨g, k, none⟩ (.bool true)) := (FrX.refl _ _ w).setCell (T := 4) (by simp) ht.2 ht.1 (h.xc g rfl) _
  refine ⟨⟨⟨h.blk.frT f1.fr (by decide), h.lo, ?_, ?_, h.txs.frT f1.fr (by decide) (by decide), h.jr, hg⟩, h.xq, h.xp, h.xc, h.xt, fun k hk => Nat.lt_of_lt_of_le (h.top k hk) f1.fr.size⟩, f1.mono (by simp [tK])⟩
  · simp only [List.length_set]
    rw [map_shut hc]
    exact ownsRow_frT h.par f1.fr (by decide)
  · simp only [List.length_set, List.map_set]
    exact own_set h.clo _

set_option maxRecDepth 100000 in
set_option maxHeartbeats 4000000 in
theorem yesX_close (X : Nat → Prop) (B q : Nat) (s : Bk) (k : Nat) (b n : Int) (ao : Option Addr) (m cap : Nat) (c : Ac) (w : World) (h : Recx X w B q s) (hc : s.acs[k]? = some c) (h1 : 1 ≤ k) (hcc : c.2 = false) (hg : BkGood { s with acs := s.acs.set k (c.1, true) }) :
    Calls Tryz.prog 37 #[.pointer (some ⟨q, 0, none⟩), .agg #[.int .i64 2, .int .i64 (k : Int), .int .i64 b, .slice ao m cap], .int .i64 n] w fun e w' => e = .returned (.bool true) ∧ Recx X w' B q { s with acs := s.acs.set k (c.1, true) } ∧ FrX X B tK w w' := by
  obtain ⟨bx, hbx⟩ : ∃ bx, w.heap.size = bx := ⟨_, rfl⟩
  obtain ⟨W, hW⟩ : ∃ W, w.alloc (.cells #[.int .i64 2, .int .i64 (k : Int), .int .i64 b, .slice ao m cap] 44) = W := ⟨_, rfl⟩
  have HX : Hid (Blk W bx #[.int .i64 2, .int .i64 (k : Int), .int .i64 b, .slice ao m cap] 44) := by rw [← hW, ← hbx]; exact Blk.new _ _ _
  have Hb0 : Hid (Below w.heap.size w W) := by rw [← hW]; exact (Below.refl _ _).alloc (Nat.le_refl _) _
  obtain ⟨vp, vc, vt, tv, h⟩ := h
  obtain ⟨g, capp, rfl, hg1, hg1'⟩ := ownsRow_some h.par h.good.one
  obtain ⟨g2, cap2, rfl, hg2, hg2'⟩ := ownsRow_some h.clo h.good.one
  have hk : k < s.acs.length := (List.getElem?_eq_some_iff.1 hc).1
  have hfew := h.good.few
  have H0 := hide (h.keptX (unhide Hb0))
  have d := ownsRow_cell (unhide H0).clo (j := k) (u := .bool false) (by rw [List.getElem?_map, hc, ← hcc]; rfl)
  have zf := ownsRow_frozen (unhide H0).clo k
  have x0 := (unhide HX).cell 0
  have x1 := (unhide HX).cell 1
  have c0 := (unhide H0).blk.cell 0
  have c1 := (unhide H0).blk.cell 1
  simp only [List.getElem?_toArray, List.getElem?_cons_zero, List.getElem?_cons_succ] at x0 x1 c0 c1
  have Hfin : Hid (∀ n', RecAx X ((W.drewN n').setCell ⟨g2, k, none⟩ (.bool true)) B q _ _ _ tv { s with acs := s.acs.set k (c.1, true) } ∧ FrX X B tK (W.drewN n') ((W.drewN n').setCell ⟨g2, k, none⟩ (.bool true))) := fun n' => ((unhide H0).drewNX n').shut hc hg
  have l1 : ¬ ((k : Int) < 1) := by omega
  have l2 : ¬ ((s.acs.length : Int) ≤ (k : Int)) := by omega
  have l3 : (k : Int) < (s.acs.length : Int) := by omega
  have l4 : (0 : Int) ≤ (k : Int) := by omega
  clear h hc hg
  go_enter Tryz.func37, Tryz.ntmps37
  go_upto_region 8 with fail
  try rw [hW]
  try rw [hbx]
  clear hW hbx
  go_quiet (fail)
  go_upto_region 10 with fail
  go_region
  all_goals
    go_wp2_with fail
    go_ret
    have hf := unhide Hfin
    refine ⟨rfl, ⟨_, _, _, _, (hf _).1⟩, ?_⟩
    exact (((FrX.of_below (unhide Hb0)).drewN _).trans (hf _).2)


end Go.Proofs.YtdchbenfccofpabGreatDoor
namespace Go.Proofs.YtdchbenfccofpabGreatDoor
open Go.RowKit Db

theorem RecAx.more {X : Nat → Prop} {w w5 w6 : World} {B p : Nat} {vp vp' vc vc' vt : Value} {tv : List (Tn × Value)} {s s' : Bk} (h : RecAx X w B p vp vc vt tv s) (f1 : FrX X B [3] w w5) (o2 : Obj) (hblk : Blk w5 p #[vp, vc, vt] 91)
    (hown : w5.ownsRow B 3 1 vp' s'.acs.length (s'.acs.map fun a => .int .i64 a.1))
    (hgr2 : ((w5.setCell ⟨p, 0, none⟩ vp').alloc o2).grownBy w6 vc.ownBlock) (hblk2 : Blk w6 p #[vp', vc, vt] 91)
    (hown2 : w6.ownsRow B 4 1 vc' s'.acs.length (s'.acs.map fun a => .bool a.2)) (hs : s'.txs = s.txs) (hg : BkGood s') (hxp' : ∀ k, vp'.ownBlock = some k → ¬ X k) (hat2 : vc'.ownBlock = vc.ownBlock ∨ vc'.ownBlock = some ((w5.setCell ⟨p, 0, none⟩ vp').alloc o2).heap.size) :
    RecAx X (w6.setCell ⟨p, 1, none⟩ vc') B p vp' vc' vt tv s' ∧ FrX X B tK w (w6.setCell ⟨p, 1, none⟩ vc') := by
  have f2 : FrX X B [91] w5 (w5.setCell ⟨p, 0, none⟩ vp') := (FrX.refl _ _ w5).setCell (T := 91) (by simp) hblk.tg h.lo h.xq _
  have hc : (w5.setCell ⟨p, 0, none⟩ vp').ownsRow B 4 1 vc s.acs.length (s.acs.map fun a => .bool a.2) := ownsRow_frT (ownsRow_frT h.clo f1.fr (by decide)) f2.fr (by decide)
  have f3 : FrX X B [4] (w5.setCell ⟨p, 0, none⟩ vp') w6 := ((FrX.refl _ _ _).alloc o2).grown hgr2 (T := 4) (by simp) (fun k hk => ⟨(ownsRow_tg hc k hk).1, tg_alloc (ownsRow_tg hc k hk).2 o2⟩) h.xc
  have f4 : FrX X B [91] w6 (w6.setCell ⟨p, 1, none⟩ vc') := (FrX.refl _ _ w6).setCell (T := 91) (by simp) hblk2.tg h.lo h.xq _
  have hsz : w.heap.size ≤ (w5.setCell ⟨p, 0, none⟩ vp').heap.size := Nat.le_trans f1.fr.size f2.fr.size
  refine ⟨⟨⟨?_, h.lo, ownsRow_frT (ownsRow_frT (ownsRow_frT hown f2.fr (by decide)) f3.fr (by decide)) f4.fr (by decide), ownsRow_frT hown2 f4.fr (by decide), (((h.txs.frT f1.fr (by decide) (by decide)).frT f2.fr (by decide) (by decide)).frT f3.fr (by decide) (by decide)).frT f4.fr (by decide) (by decide), by rw [hs]; exact h.jr, hg⟩, h.xq, hxp', fresh_not h.top h.xc (Nat.le_trans hsz (by simp)) hat2, h.xt, fun k hk => Nat.lt_of_lt_of_le (h.top k hk) (Nat.le_trans hsz (Nat.le_trans f3.fr.size f4.fr.size))⟩, ?_⟩
  · have := hblk2.set 1 vc'
    simpa using this
  · exact (((f1.mono (by simp [tK])).trans (f2.mono (by simp [tK]))).trans (f3.mono (by simp [tK]))).trans (f4.mono (by simp [tK]))


set_option maxRecDepth 100000 in
set_option maxHeartbeats 4000000 in
theorem yesX_open (X : Nat → Prop) (B q : Nat) (s : Bk) (k : Nat) (b : Int) (ao : Option Addr) (m cap : Nat) (c : Ac) (w : World) (h : Recx X w B q s) (hc : s.acs[k]? = some c) (hcc : c.2 = false) (h16 : s.acs.length < 16) (hg : BkGood { s with acs := s.acs ++ [((k : Int), false)] }) :
    Calls Tryz.prog 37 #[.pointer (some ⟨q, 0, none⟩), .agg #[.int .i64 1, .int .i64 (k : Int), .int .i64 b, .slice ao m cap], .int .i64 (s.acs.length : Int)] w fun e w' => e = .returned (.bool true) ∧ Recx X w' B q { s with acs := s.acs ++ [((k : Int), false)] } ∧ FrX X B tK w w' := by
  obtain ⟨ii, hi, hz0, hz1, hz2⟩ := info_parts infoInt
  obtain ⟨jj, hj, hy0, hy1, hy2⟩ := info_parts infoBool
  obtain ⟨bx, hbx⟩ : ∃ bx, w.heap.size = bx := ⟨_, rfl⟩
  obtain ⟨W, hW⟩ : ∃ W, w.alloc (.cells #[.int .i64 1, .int .i64 (k : Int), .int .i64 b, .slice ao m cap] 44) = W := ⟨_, rfl⟩
  have HX : Hid (Blk W bx #[.int .i64 1, .int .i64 (k : Int), .int .i64 b, .slice ao m cap] 44) := by rw [← hW, ← hbx]; exact Blk.new _ _ _
  have Hb0 : Hid (Below w.heap.size w W) := by rw [← hW]; exact (Below.refl _ _).alloc (Nat.le_refl _) _
  obtain ⟨vp, vc, vt, tv, h⟩ := h
  obtain ⟨g, capp, rfl, hg1, hg1'⟩ := ownsRow_some h.par h.good.one
  obtain ⟨g2, cap2, rfl, hg2, hg2'⟩ := ownsRow_some h.clo h.good.one
  have hk : k < s.acs.length := (List.getElem?_eq_some_iff.1 hc).1
  have H0 := hide (h.keptX (unhide Hb0))
  have Hgood := hide hg
  have d := ownsRow_cell (unhide H0).clo (j := k) (u := .bool false) (by rw [List.getElem?_map, hc, ← hcc]; rfl)
  have x0 := (unhide HX).cell 0
  have x1 := (unhide HX).cell 1
  have c0 := (unhide H0).blk.cell 0
  have c1 := (unhide H0).blk.cell 1
  simp only [List.getElem?_toArray, List.getElem?_cons_zero, List.getElem?_cons_succ] at x0 x1 c0 c1
  have l1 : ¬ ((k : Int) < 0) := by omega
  have l2 : ¬ ((s.acs.length : Int) ≤ (k : Int)) := by omega
  have l3 : (k : Int) < (s.acs.length : Int) := by omega
  have l4 : (0 : Int) ≤ (k : Int) := by omega
  have l5 : ((s.acs.length : Int) != (s.acs.length : Int)) = false := by simp
  have HBw := hide (show B ≤ W.heap.size by have h1 := (unhide H0).lo; have h2 := (unhide H0).blk.lt; omega)
  clear h hc hg
  go_enter Tryz.func37, Tryz.ntmps37
  go_upto_region 3 with fail
  try rw [hW]
  try rw [hbx]
  clear hW hbx
  go_quiet (fail)
  obtain ⟨W1, hW1⟩ : ∃ W1, W.drewN nq = W1 := ⟨_, rfl⟩
  have H1 : Hid (RecAx X W1 B q (.slice (some ⟨g, 0, none⟩) s.acs.length capp) (.slice (some ⟨g2, 0, none⟩) s.acs.length cap2) vt tv s) := by rw [← hW1]; exact (unhide H0).drewNX nq
  have HF1 : Hid (FrX X B tK w W1) := by rw [← hW1]; exact (FrX.of_below (unhide Hb0)).drewN _
  have HX1 := hide ((unhide HX).kept ((Below.refl _ _).drewN nq))
  rw [hW1] at HX1 ⊢
  have HBw1 : B ≤ W1.heap.size := by rw [← hW1]; exact unhide HBw
  clear hW1 x0 x1 c0 c1 d H0
  have x1 := (unhide HX1).cell 1
  have lx := (unhide HX1).lt
  have c0 := (unhide H1).blk.cell 0
  have z0 := (unhide H1).blk.frozen 0
  have lq := (unhide H1).blk.lt
  simp only [List.getElem?_toArray, List.getElem?_cons_zero, List.getElem?_cons_succ] at x1 c0
  have Hnb : Hid (Blk (W1.alloc (.cells #[.int .i64 (k : Int)] 3)) W1.heap.size #[.int .i64 (k : Int)] 3) := Blk.new _ _ _
  have hne1 : W1.heap.size ≠ q := by omega
  have hne2 : W1.heap.size ≠ bx := by omega
  go_upto_region 5 with fail
  go_region_law (refine step_append_lies _ rfl (.tmp 53) (.tmp 56) 87 rfl B 3 ii (.int .i64 0) 1 8 Tryz.underlying87 hi hz0 hz1 hz2 rfl (by decide) (.slice (some ⟨g, 0, none⟩) s.acs.length capp) s.acs.length _ (by simp [Act.eval]) (by first | exact ((unhide H1).par.alloc _).drew | exact ((unhide H1).par.alloc _)) ⟨W1.heap.size, 0, none⟩ 1 1 [.int .i64 (k : Int)] (by simp [Act.eval]) rfl (World.news_of_block (by exact unhide Hnb)) (fun x hx => by simp at hx; subst hx; rfl) (by decide) (by unfold maxLen; omega) (by omega) (by simp <;> omega) (W1.heap.size + 1) (by simp) ?_; intro gf cf w5 hown5 hgr5 hat5 hlt5; have hblk5 := Blk.grown (cs := #[.slice (some ⟨g, 0, none⟩) s.acs.length capp, .slice (some ⟨g2, 0, none⟩) s.acs.length cap2, vt]) (T := 91) (b := q) (by exact ((unhide H1).blk.alloc _)) hgr5 (blk_own_ne (unhide H1).blk (unhide H1).par (by decide)); have c5 := hblk5.cell 0; have z5 := hblk5.frozen 0; have e5 := hblk5.cell 1; have y5 := hblk5.frozen 1; have l5 := hblk5.lt; simp only [List.getElem?_toArray, List.getElem?_cons_zero, List.getElem?_cons_succ] at c5 e5; have Hblk5 := hide hblk5; have Hown5 := hide hown5; have Hgr5 := hide hgr5; have Hx5 : Hid (¬ X gf) := (by intro hX; rcases hat5 with e | e; exact (unhide H1).xp gf e hX; have := (unhide H1).top gf hX; omega); clear hblk5 hown5 hgr5 hat5)
  all_goals
    have Hf1 : Hid (FrX X B [3] W1 w5) := ((((FrX.refl _ _ W1).alloc _).drew).grown (unhide Hgr5) (T := 3) (by simp) (fun j hj => ⟨(ownsRow_tg (unhide H1).par j hj).1, tg_alloc (ownsRow_tg (unhide H1).par j hj).2 _⟩) (unhide H1).xp)
    have hs5 : W1.heap.size ≤ w5.heap.size := (unhide Hf1).fr.size
    have Hclo6 := hide (fun v => ownsRow_frT (ownsRow_frT (unhide H1).clo (unhide Hf1).fr (by decide)) ((FrT.refl B [91] w5).setCell (p := ⟨q, 0, none⟩) (T := 91) (by simp) (unhide Hblk5).tg (unhide H1).lo v) (by decide))
    have Hblk6 := hide (fun v => (unhide Hblk5).set 0 v)
    have hBq := (unhide H1).lo
    go_wp2_with (first
      | (at_builtin; refine wpList_append_own_at _ rfl (.tmp 64) (.tmp 65) 88 rfl B 4 jj (.bool false) 1 1 Tryz.underlying88 hj hy0 hy1 hy2 rfl (by decide) (.slice (some ⟨g2, 0, none⟩) s.acs.length cap2) s.acs.length _ rfl ((unhide Hclo6 _).alloc _) ⟨w5.heap.size, 0, none⟩ 1 1 [.bool false] rfl rfl (new1 _ _ (by simp [World.setCell]) _ _) (fun x hx => by simp at hx; subst hx; rfl) (by unfold maxLen; omega) (by omega) (by simp [World.setCell]; omega) ?_; intro vq' w6 hown6 hgr6 _ hat6; obtain ⟨gh, ch, rfl, hgh, hgh'⟩ := ownsRow_some hown6 (Nat.succ_pos _); have hblk6 := ((unhide Hblk6 _).alloc _).grown hgr6 (blk_own_ne (unhide Hblk6 vt) (unhide Hclo6 vt) (by decide)); simp only [List.setIfInBounds_toArray, List.set_cons_zero] at hblk6; have c6 := hblk6.cell 1; have z6 := hblk6.frozen 1; have l6 := hblk6.lt; have e6 := hblk6.cell 0; simp only [List.getElem?_toArray, List.getElem?_cons_zero, List.getElem?_cons_succ] at c6 e6; have Hbl6 := hide hblk6; have Hown6 := hide hown6; have Hgr6 := hide hgr6; have Hat6 := hide hat6; clear hblk6 hown6 hgr6 hat6))
    go_ret
    have hfin := (unhide H1).more (unhide Hf1) _ (unhide Hblk5) (s' := { s with acs := s.acs ++ [((k : Int), false)] }) (by simpa using unhide Hown5) (unhide Hgr6) (unhide Hbl6) (by simpa using unhide Hown6) rfl (unhide Hgood) (fun j hj => by simp only [Value.ownBlock, Option.some.injEq] at hj; subst hj; exact unhide Hx5) (unhide Hat6)
    exact ⟨rfl, ⟨_, _, _, _, hfin.1⟩, (unhide HF1).trans hfin.2⟩


end Go.Proofs.YtdchbenfccofpabGreatDoor
