/- Two books at once: a record is laid; Open, Close, Post with the disk. Two books at once: a step on one of them. Two books at once: a step on one of them leaves the other. Resumed: the walk. -/
import Derived.Test.YtdchbenfccofpabGreatDoorR13
import Derived.Deep.AppendLies
import Derived.Deep.RegionLaw
import Derived.Test.YtdchbenfccofpabGreatDoorR04
import Derived.Test.YtdchbenfccofpabGreatDoorR11
namespace Go.Proofs.YtdchbenfccofpabGreatDoor
open Go.RowKit Db

set_option maxRecDepth 100000 in
set_option maxHeartbeats 4000000 in
theorem layX_any (X : Nat → Prop) (B p u : Nat) (va vt vw : Value) (ws : List Wr) (k : Nat) (n d : Int) (v : Value) (ls : List Ln) (w : World) (hblk : Blk w p #[va, vt, .int .i64 (u : Int), vw] 82) (hB : B ≤ p) (how : w.ownsRow B 96 2 vw ws.length (cellsW ws)) (hwl : ws.length ≤ 2 * u) (hu : u ≤ 95) (hxp : ¬ X p) (hxw : ∀ k, vw.ownBlock = some k → ¬ X k) (top : ∀ k, X k → k < w.heap.size)
    (hk : k < 256) (hn : AmtOk n) (hd : AmtOk d) (hl : LinesAt w v ls) (h4 : ls.length ≤ 4) (hls : ∀ l ∈ ls, AmtOk l.1 ∧ AmtOk l.2) :
    Calls Tryz.prog 67 #[.pointer (some ⟨p, 2, none⟩), .agg #[.int .u8 (k : Int), .int .i64 n, .int .i64 d, v]] w fun e w' => e = .returned (.tuple #[]) ∧ (∃ vw', Blk w' p #[va, vt, .int .i64 ((u + 1 : Nat) : Int), vw'] 82 ∧ w'.ownsRow B 96 2 vw' (ws.length + 1 + 1) (cellsW (ws ++ [((u : Int), secB k n d ls), (-1, ⟨#[]⟩)])) ∧ ∀ k, vw'.ownBlock = some k → ¬ X k) ∧ FrX X B [82, 96] w w' := by
  obtain ⟨ii, hi, hz0, hz1, hz2⟩ := info_parts info_write
  obtain ⟨ao, cap, rfl⟩ := hl.form
  obtain ⟨aw, cw, rfl⟩ := ownsRow_form how
  obtain ⟨bx, hbx⟩ : ∃ bx, w.heap.size = bx := ⟨_, rfl⟩
  obtain ⟨W, hW⟩ : ∃ W, w.alloc (.cells #[.int .u8 (k : Int), .int .i64 n, .int .i64 d, .slice ao ls.length cap] 101) = W := ⟨_, rfl⟩
  have HX : Hid (Blk W bx #[.int .u8 (k : Int), .int .i64 n, .int .i64 d, .slice ao ls.length cap] 101) := by rw [← hW, ← hbx]; exact Blk.new _ _ _
  have Hb0 : Hid (Below w.heap.size w W) := by rw [← hW]; exact (Below.refl _ _).alloc (Nat.le_refl _) _
  have Hsec := hide (sector_any k n d _ ls W hk hn hd (hl.kept (unhide Hb0)) h4 hls)
  have HK0 := hide (hblk.kept (unhide Hb0))
  have HO0 := hide (ownsRow_below how (unhide Hb0))
  have x0 := (unhide HX).cell 0
  have x1 := (unhide HX).cell 1
  have x2 := (unhide HX).cell 2
  have x3 := (unhide HX).cell 3
  simp only [List.getElem?_toArray, List.getElem?_cons_zero, List.getElem?_cons_succ] at x0 x1 x2 x3
  obtain ⟨sx, hsx⟩ : ∃ sx, secB k n d ls = sx := ⟨_, rfl⟩
  rw [hsx] at Hsec ⊢
  have Htop := hide top
  have Hxw : Hid (∀ k, (Value.slice aw ws.length cw).ownBlock = some k → ¬ X k) := hxw
  clear hblk how hn hd hl hls hsx hk top hxw
  go_enter Tryz.func67, Tryz.ntmps67
  go_wp2_with fail
  try rw [hW]
  try rw [hbx]
  clear hW hbx
  refine (unhide Hsec).mono ?_
  rintro e w1 ⟨rfl, hb1⟩
  have HK1 := hide ((unhide HK0).kept hb1)
  have HO1 := hide (ownsRow_below (unhide HO0) hb1)
  have HF1 : Hid (FrX X B [82, 96] w w1) := (FrX.of_below (unhide Hb0)).then hb1
  have c2 := (unhide HK1).cell 2
  have c3 := (unhide HK1).cell 3
  have z3 := (unhide HK1).frozen 3
  have lq := (unhide HK1).lt
  simp only [List.getElem?_toArray, List.getElem?_cons_zero, List.getElem?_cons_succ] at c2 c3
  have hBw : B ≤ w1.heap.size := by omega
  have Hnb : Hid (Blk (w1.alloc (.cells #[.int .i64 (u : Int), .string sx] 96)) w1.heap.size #[.int .i64 (u : Int), .string sx] 96) := Blk.new _ _ _
  have hne1 : w1.heap.size ≠ p := by omega
  have hws : w.heap.size ≤ w1.heap.size := (unhide HF1).fr.size
  clear hb1 x0 x1 x2 x3
  go_upto_region 2 with fail
  go_region_law (refine step_append_lies _ rfl (.tmp 11) (.tmp 18) 47 rfl B 96 ii (.agg #[.int .i64 0, .string ⟨#[]⟩]) 2 24 Tryz.underlying47 hi hz0 hz1 hz2 rfl (by decide) (.slice aw ws.length cw) ws.length _ (by simp [Act.eval]) (by first | exact ((unhide HO1).alloc _).drew | exact ((unhide HO1).alloc _)) ⟨w1.heap.size, 0, none⟩ 1 1 [.int .i64 (u : Int), .string sx] (by simp [Act.eval]) rfl (World.news_of_block (by exact unhide Hnb)) (fun x hx => by simp at hx; rcases hx with rfl | rfl <;> rfl) (by decide) (by unfold maxLen; omega) (by omega) (by simp <;> omega) (w1.heap.size + 1) (by simp) ?_; intro gf cf w5 hown5 hgr5 hat5 hlt5; have hblk5 := Blk.grown (cs := #[va, vt, .int .i64 (u : Int), .slice aw ws.length cw]) (T := 82) (b := p) (by exact ((unhide HK1).alloc _)) hgr5 (blk_own_ne (unhide HK1) (unhide HO1) (by decide)); have c5 := hblk5.cell 3; have z5 := hblk5.frozen 3; have e5 := hblk5.cell 2; have y5 := hblk5.frozen 2; have l5 := hblk5.lt; simp only [List.getElem?_toArray, List.getElem?_cons_zero, List.getElem?_cons_succ] at c5 e5; have Hblk5 := hide hblk5; have Hown5 := hide hown5; have Hgr5 := hide hgr5; have Hx5 : Hid (¬ X gf) := (by intro hX; rcases hat5 with e | e; exact unhide Hxw gf e hX; have := unhide Htop gf hX; omega); clear hblk5 hown5 hgr5 hat5)
  all_goals
    have Hf1 : Hid (FrX X B [96] w1 w5) := ((((FrX.refl _ _ w1).alloc _).drew).grown (unhide Hgr5) (T := 96) (by simp) (fun j hj => ⟨(ownsRow_tg (unhide HO1) j hj).1, tg_alloc (ownsRow_tg (unhide HO1) j hj).2 _⟩) (unhide Hxw))
    have hs5 : w1.heap.size ≤ w5.heap.size := (unhide Hf1).fr.size
    have Hown6 := hide (fun v => ownsRow_frT (unhide Hown5) ((FrT.refl B [82] w5).setCell (p := ⟨p, 3, none⟩) (T := 82) (by simp) (unhide Hblk5).tg hB v) (by decide))
    have Hblk6 := hide (fun v => (unhide Hblk5).set 3 v)
    go_wp2_with (first
      | (at_builtin; refine wpList_append_own_at _ rfl (.tmp 26) (.tmp 28) 47 rfl B 96 ii (.agg #[.int .i64 0, .string ⟨#[]⟩]) 2 24 Tryz.underlying47 hi hz0 hz1 hz2 rfl (by decide) (.slice (some ⟨gf, 0, none⟩) (ws.length + 1) cf) (ws.length + 1) _ rfl ((unhide Hown6 _).alloc _) ⟨w5.heap.size, 0, none⟩ 1 1 [.int .i64 (-1), .string ⟨#[]⟩] rfl rfl (new2 _ _ (by simp [World.setCell]) _ _ _) (fun x hx => by simp at hx; rcases hx with rfl | rfl <;> rfl) (by unfold maxLen; omega) (by omega) (by simp [World.setCell]; omega) ?_; intro vq' w6 hown6 hgr6 _ hat6; obtain ⟨gh, ch, rfl, hgh, hgh'⟩ := ownsRow_some hown6 (Nat.succ_pos _); have hblk6 := ((unhide Hblk6 _).alloc _).grown hgr6 (blk_own_ne (unhide Hblk6 vt) (unhide Hown6 vt) (by decide)); simp only [List.setIfInBounds_toArray, List.set_cons_zero, List.set_cons_succ] at hblk6; have c6 := hblk6.cell 3; have z6 := hblk6.frozen 3; have l6 := hblk6.lt; have e6 := hblk6.cell 2; have y6 := hblk6.frozen 2; simp only [List.getElem?_toArray, List.getElem?_cons_zero, List.getElem?_cons_succ] at c6 e6; have Hbl6 := hide hblk6; have Hown6' := hide hown6; have Hgr6 := hide hgr6; have Hat6 := hide hat6; clear hblk6 hown6 hgr6 hat6))
    go_end0
    have hx6 : ¬ X gh := by
      intro hX
      rcases unhide Hat6 with e | e
      · simp only [Value.ownBlock, Option.some.injEq] at e; subst e; exact unhide Hx5 hX
      · simp [Value.ownBlock, World.setCell] at e; have := unhide Htop _ hX; omega
    have g1 := (FrX.refl (X := X) B [82, 96] w5).setCell (p := ⟨p, 3, none⟩) (T := 82) (by simp) (unhide Hblk5).tg hB hxp (.slice (some ⟨gf, 0, none⟩) (ws.length + 1) cf)
    have g2 := (g1.alloc (.cells #[.int .i64 (-1), .string ⟨#[]⟩] 96)).grown (unhide Hgr6) (T := 96) (by simp) (fun j hj => ⟨(ownsRow_tg (unhide Hown6 vt) j hj).1, tg_alloc (ownsRow_tg (unhide Hown6 (.slice (some ⟨gf, 0, none⟩) (ws.length + 1) cf)) j hj).2 _⟩) (fun j hj => by simp only [Value.ownBlock, Option.some.injEq] at hj; subst hj; exact unhide Hx5)
    have b7 := (unhide Hbl6).set 3 (.slice (some ⟨gh, 0, none⟩) (ws.length + 1 + 1) ch)
    have b8 := b7.set 2 (.int .i64 ((u + 1 : Nat) : Int))
    simp only [List.setIfInBounds_toArray, List.set_cons_zero, List.set_cons_succ] at b8
    have g3 := (g2.setCell (p := ⟨p, 3, none⟩) (T := 82) (by simp) (unhide Hbl6).tg hB hxp (.slice (some ⟨gh, 0, none⟩) (ws.length + 1 + 1) ch)).setCell (p := ⟨p, 2, none⟩) (T := 82) (by simp) b7.tg hB hxp (.int .i64 ((u + 1 : Nat) : Int))
    have g4 := ((FrT.refl B [82] w6).setCell (p := ⟨p, 3, none⟩) (T := 82) (by simp) (unhide Hbl6).tg hB (.slice (some ⟨gh, 0, none⟩) (ws.length + 1 + 1) ch)).setCell (p := ⟨p, 2, none⟩) (T := 82) (by simp) b7.tg hB (.int .i64 ((u + 1 : Nat) : Int))
    refine ⟨rfl, ⟨_, b8, ?_, fun k hk => by simp only [Value.ownBlock, Option.some.injEq] at hk; subst hk; exact hx6⟩, ((unhide HF1).trans ((unhide Hf1).mono (by simp))).trans g3⟩
    have := ownsRow_frT (unhide Hown6') g4 (by decide)
    simpa [cellsW] using this


theorem LedAx.laidX {X : Nat → Prop} {w w2 : World} {B p u : Nat} {va vt vw vw' : Value} {tv : List (Tn × Value)} {ws : List Wr} {s : Bk} {x : ByteArray} (h : LedAx X w B p va vt tv ⟨u, vw, ws⟩ s) (hc : u < cnt s) (hb : Blk w2 p #[va, vt, .int .i64 ((u + 1 : Nat) : Int), vw'] 82)
    (ho : w2.ownsRow B 96 2 vw' (ws.length + 1 + 1) (cellsW (ws ++ [((u : Int), x), (-1, ⟨#[]⟩)]))) (hf : FrX X B [82, 96] w w2) (hx : ∀ k, vw'.ownBlock = some k → ¬ X k) : LedAx X w2 B p va vt tv ⟨u + 1, vw', ws ++ [((u : Int), x), (-1, ⟨#[]⟩)]⟩ s :=
  ⟨h.toLedAt.laid hc hb ho hf.fr, h.xp, h.xa, h.xt, hx, fun k hk => Nat.lt_of_lt_of_le (h.top k hk) hf.fr.size⟩

set_option maxRecDepth 100000 in
set_option maxHeartbeats 2000000 in
theorem dayOpenX_any (X : Nat → Prop) (B p u : Nat) (ws : List Wr) (s : Bk) (a : Int) (w : World) (h : LedWx X w B p u ws s) :
    Calls Tryz.prog 46 #[.pointer (some ⟨p, 0, none⟩), .int .i64 a] w fun e w' => e = .returned (.tuple #[.int .i64 (opn s a).1, .int .i64 (opn s a).2.1]) ∧ LedWx X w' B p (dkU (decide ((opn s a).2.1 = 0)) u) (dkW (decide ((opn s a).2.1 = 0)) u (secB 1 a 0 []) ws) (opn s a).2.2 ∧ FrX X B tP w w' := by
  obtain ⟨va, vt, tv, vw, h⟩ := h
  have hg := h.good
  have hcn := h.dcnt
  have hbd := cnt_bound hg
  simp only at hcn
  have Hc := hide (ledOpenX_any X B p ⟨u, vw, ws⟩ s a w ⟨va, vt, tv, h⟩)
  have hor := opn_cnt hg a
  obtain ⟨⟨x, y, s'⟩, hr⟩ : ∃ r, opn s a = r := ⟨_, rfl⟩
  rw [hr] at Hc hor ⊢
  simp only at Hc hor ⊢
  clear h hr hg
  rcases hor with ⟨rfl, h0, h1, h2⟩ | ⟨hy, rfl⟩
  · simp only [decide_true]
    have hn : AmtOk a := ⟨by omega, by omega⟩
    have hz : AmtOk 0 := ⟨by omega, by omega⟩
    have hlt : u < cnt s' := by omega
    have hu : u ≤ 95 := by omega
    go_enter Tryz.func46, Tryz.ntmps46
    go_wp2_with fail
    refine (unhide Hc).mono ?_
    rintro e w1 ⟨rfl, ⟨va1, vt1, tv1, k1⟩, k2⟩
    have HL := hide (layX_any X B p u va1 vt1 vw ws 1 a 0 _ [] w1 k1.blk k1.lo k1.dsk k1.dlen hu k1.xp k1.xw k1.top (by omega) hn hz (LinesAt.nil w1) (by simp) (by simp))
    have K1 := hide k1
    have K2 := hide k2
    clear k1 k2 Hc
    go_wp2_with fail
    refine (unhide HL).mono ?_
    rintro e w2 ⟨rfl, ⟨vw2, j1, j2, j4⟩, j3⟩
    have HF : Hid (LedWx X w2 B p (u + 1) (ws ++ [((u : Int), secB 1 a 0 []), (-1, ⟨#[]⟩)]) s' ∧ FrX X B tP w w2) := ⟨⟨_, _, _, _, (unhide K1).laidX hlt j1 j2 j3 j4⟩, (unhide K2).trans (j3.mono (by simp [tP]))⟩
    clear j1 j2 j3 j4 HL K1 K2
    go_wp2_with fail
    go_ret2
    exact ⟨rfl, (unhide HF).1, (unhide HF).2⟩
  · have hd : decide (y = 0) = false := by simpa using hy
    have hye : (y == 0) = false := by simpa using hy
    rw [hd]
    go_enter Tryz.func46, Tryz.ntmps46
    go_wp2_with fail
    refine (unhide Hc).mono ?_
    rintro e w1 ⟨rfl, ⟨va1, vt1, tv1, k1⟩, k2⟩
    have K1 := hide k1
    have K2 := hide k2
    clear k1 k2 Hc
    go_wp2_with fail
    go_ret2
    exact ⟨rfl, ⟨_, _, _, _, unhide K1⟩, unhide K2⟩


set_option maxRecDepth 100000 in
set_option maxHeartbeats 2000000 in
theorem dayCloseX_any (X : Nat → Prop) (B p u : Nat) (ws : List Wr) (s : Bk) (a : Int) (w : World) (h : LedWx X w B p u ws s) :
    Calls Tryz.prog 47 #[.pointer (some ⟨p, 0, none⟩), .int .i64 a] w fun e w' => e = .returned (.int .i64 (cls s a).1) ∧ LedWx X w' B p (dkU (decide ((cls s a).1 = 0)) u) (dkW (decide ((cls s a).1 = 0)) u (secB 2 a 0 []) ws) (cls s a).2 ∧ FrX X B tP w w' := by
  obtain ⟨va, vt, tv, vw, h⟩ := h
  have hg := h.good
  have hcn := h.dcnt
  have hbd := cnt_bound hg
  simp only at hcn
  have Hc := hide (ledCloseX_any X B p ⟨u, vw, ws⟩ s a w ⟨va, vt, tv, h⟩)
  have hor := cls_cnt hg a
  obtain ⟨⟨y, s'⟩, hr⟩ : ∃ r, cls s a = r := ⟨_, rfl⟩
  rw [hr] at Hc hor ⊢
  simp only at Hc hor ⊢
  clear h hr hg
  rcases hor with ⟨rfl, h0, h1, h2⟩ | ⟨hy, rfl⟩
  · simp only [decide_true]
    have hn : AmtOk a := ⟨by omega, by omega⟩
    have hz : AmtOk 0 := ⟨by omega, by omega⟩
    have hlt : u < cnt s' := by omega
    have hu : u ≤ 95 := by omega
    go_enter Tryz.func47, Tryz.ntmps47
    go_wp2_with fail
    refine (unhide Hc).mono ?_
    rintro e w1 ⟨rfl, ⟨va1, vt1, tv1, k1⟩, k2⟩
    have HL := hide (layX_any X B p u va1 vt1 vw ws 2 a 0 _ [] w1 k1.blk k1.lo k1.dsk k1.dlen hu k1.xp k1.xw k1.top (by omega) hn hz (LinesAt.nil w1) (by simp) (by simp))
    have K1 := hide k1
    have K2 := hide k2
    clear k1 k2 Hc
    go_wp2_with fail
    refine (unhide HL).mono ?_
    rintro e w2 ⟨rfl, ⟨vw2, j1, j2, j4⟩, j3⟩
    have HF : Hid (LedWx X w2 B p (u + 1) (ws ++ [((u : Int), secB 2 a 0 []), (-1, ⟨#[]⟩)]) s' ∧ FrX X B tP w w2) := ⟨⟨_, _, _, _, (unhide K1).laidX hlt j1 j2 j3 j4⟩, (unhide K2).trans (j3.mono (by simp [tP]))⟩
    clear j1 j2 j3 j4 HL K1 K2
    go_wp2_with fail
    go_ret
    exact ⟨rfl, (unhide HF).1, (unhide HF).2⟩
  · have hd : decide (y = 0) = false := by simpa using hy
    have hye : (y == 0) = false := by simpa using hy
    rw [hd]
    go_enter Tryz.func47, Tryz.ntmps47
    go_wp2_with fail
    refine (unhide Hc).mono ?_
    rintro e w1 ⟨rfl, ⟨va1, vt1, tv1, k1⟩, k2⟩
    have K1 := hide k1
    have K2 := hide k2
    clear k1 k2 Hc
    go_wp2_with fail
    go_ret
    exact ⟨rfl, ⟨_, _, _, _, unhide K1⟩, unhide K2⟩


set_option maxRecDepth 100000 in
set_option maxHeartbeats 2000000 in
theorem dayPostX_any (X : Nat → Prop) (B p u : Nat) (ws : List Wr) (s : Bk) (id day : Int) (v : Value) (ls : List Ln) (w : World) (va vt vw : Value) (tv : List (Tn × Value)) (h : LedAx X w B p va vt tv ⟨u, vw, ws⟩ s) (hl : LinesAt w v ls) (hty : ∀ k, v.ownBlock = some k → Tg w k 84) :
    Calls Tryz.prog 49 #[.pointer (some ⟨p, 0, none⟩), .int .i64 id, .int .i64 day, v] w fun e w' => e = .returned (.int .i64 (pst s id day ls).1) ∧ LedWx X w' B p (dkU (isN s id day ls) u) (dkW (isN s id day ls) u (secB 3 id day ls) ws) (pst s id day ls).2 ∧ FrX X B tP w w' := by
  have hg := h.good
  have hcn := h.dcnt
  have hbd := cnt_bound hg
  have hfew := hg.few
  simp only at hcn
  have Hc := hide (ledPostX_any X B p s id day v ls w va vt tv ⟨u, vw, ws⟩ h hl)
  have hor := pst_cnt hg id day ls
  obtain ⟨ao, cap, rfl⟩ := hl.form
  have Hl := hide hl
  have Hty := hide hty
  obtain ⟨⟨y, s'⟩, hr⟩ : ∃ r, pst s id day ls = r := ⟨_, rfl⟩
  rw [hr] at Hc hor ⊢
  obtain ⟨nw, hnw⟩ : ∃ r, isN s id day ls = r := ⟨_, rfl⟩
  rw [hnw] at Hc hor ⊢
  simp only at Hc hor ⊢
  clear h hr hg hl hty hnw
  rcases hor with ⟨rfl, rfl, h0, h1, h2, h3, h4, h5, h6, h7⟩ | ⟨rfl, rfl⟩
  · have hn : AmtOk id := ⟨by omega, by omega⟩
    have hz : AmtOk day := ⟨by omega, by omega⟩
    have hlt : u < cnt s' := by omega
    have hu : u ≤ 95 := by omega
    have Hls : Hid (∀ l ∈ ls, AmtOk l.1 ∧ AmtOk l.2) := fun l hl => by have := h5 l hl; exact ⟨⟨by omega, by omega⟩, ⟨by omega, by omega⟩⟩
    clear h5 h6
    go_enter Tryz.func49, Tryz.ntmps49
    go_wp2_with fail
    refine (unhide Hc).mono ?_
    rintro e w1 ⟨rfl, ⟨va1, vt1, tv1, k1⟩, k2⟩
    have HL := hide (layX_any X B p u va1 vt1 vw ws 3 id day _ ls w1 k1.blk k1.lo k1.dsk k1.dlen hu k1.xp k1.xw k1.top (by omega) hn hz ((unhide Hl).frTy k2.fr (unhide Hty) (by decide)) h4 (unhide Hls))
    have K1 := hide k1
    have K2 := hide k2
    clear k1 k2 Hc
    go_wp2_with fail
    refine (unhide HL).mono ?_
    rintro e w2 ⟨rfl, ⟨vw2, j1, j2, j4⟩, j3⟩
    have HF : Hid (LedWx X w2 B p (u + 1) (ws ++ [((u : Int), secB 3 id day ls), (-1, ⟨#[]⟩)]) s' ∧ FrX X B tP w w2) := ⟨⟨_, _, _, _, (unhide K1).laidX hlt j1 j2 j3 j4⟩, (unhide K2).trans (j3.mono (by simp [tP]))⟩
    clear j1 j2 j3 j4 HL K1 K2
    go_wp2_with fail
    go_ret
    exact ⟨rfl, (unhide HF).1, (unhide HF).2⟩
  · go_enter Tryz.func49, Tryz.ntmps49
    go_wp2_with fail
    refine (unhide Hc).mono ?_
    rintro e w1 ⟨rfl, ⟨va1, vt1, tv1, k1⟩, k2⟩
    have K1 := hide k1
    have K2 := hide k2
    clear k1 k2 Hc
    go_wp2_with fail
    go_ret
    exact ⟨rfl, ⟨_, _, _, _, unhide K1⟩, unhide K2⟩


end Go.Proofs.YtdchbenfccofpabGreatDoor
namespace Go.Proofs.YtdchbenfccofpabGreatDoor
open Go.RowKit Db

set_option maxRecDepth 100000 in
set_option maxHeartbeats 4000000 in
theorem calledX_any (X : Nat → Prop) (B p u : Nat) (ws : List Wr) (s : Bk) (kd a b : Int) (ao : Option Addr) (cap : Nat) (ls : List Ln) (w : World) (h : LedWx X w B p u ws s) (hl : LinesAt w (.slice ao ls.length cap) ls) (hn : ls.length ≤ 8796093022000) :
    Calls Tryz.prog 29 #[.pointer (some ⟨p, 0, none⟩), .agg #[.int .i64 kd, .int .i64 a, .int .i64 b, .slice ao ls.length cap]] w fun e w' => e = .returned (.tuple #[.int .i64 (clE s kd a b ls).1, .int .i64 (clE s kd a b ls).2.1]) ∧ LedWx X w' B p (dkU (clY s kd a b ls) u) (dkW (clY s kd a b ls) u (clX kd a b ls) ws) (clE s kd a b ls).2.2 ∧ FrX X B tP w w' := by
  obtain ⟨bx, hbx⟩ : ∃ bx, w.heap.size = bx := ⟨_, rfl⟩
  obtain ⟨W, hW⟩ : ∃ W, w.alloc (.cells #[.int .i64 kd, .int .i64 a, .int .i64 b, .slice ao ls.length cap] 44) = W := ⟨_, rfl⟩
  have HX : Hid (Blk W bx #[.int .i64 kd, .int .i64 a, .int .i64 b, .slice ao ls.length cap] 44) := by rw [← hW, ← hbx]; exact Blk.new _ _ _
  have Hb0 : Hid (Below w.heap.size w W) := by rw [← hW]; exact (Below.refl _ _).alloc (Nat.le_refl _) _
  have H0 : Hid (LedWx X W B p u ws s) := by
    obtain ⟨va, vt, tv, vw, h1⟩ := h
    exact ⟨_, _, _, _, h1.keptX (unhide Hb0)⟩
  have Hl0 := hide (hl.kept (unhide Hb0))
  have x0 := (unhide HX).cell 0
  have x1 := (unhide HX).cell 1
  have x3 := (unhide HX).cell 3
  simp only [List.getElem?_toArray, List.getElem?_cons_zero, List.getElem?_cons_succ] at x0 x1 x3
  clear h hl
  by_cases h1 : kd = 1
  · subst h1
    have Hop := hide (dayOpenX_any X B p u ws s a W (unhide H0))
    have hcl : clE s 1 a b ls = opn s a := rfl
    have hyl : clY s 1 a b ls = decide ((opn s a).2.1 = 0) := rfl
    have hxl : clX 1 a b ls = secB 1 a 0 [] := rfl
    rw [hcl, hyl, hxl]
    clear hcl hyl hxl
    obtain ⟨⟨x, y, s'⟩, hr⟩ : ∃ r, opn s a = r := ⟨_, rfl⟩
    rw [hr] at Hop ⊢
    simp only at Hop ⊢
    obtain ⟨u', hu'⟩ : ∃ u', dkU (decide (y = 0)) u = u' := ⟨_, rfl⟩
    obtain ⟨ws', hws'⟩ : ∃ ws', dkW (decide (y = 0)) u (secB 1 a 0 []) ws = ws' := ⟨_, rfl⟩
    rw [hu', hws'] at Hop ⊢
    clear hr hu' hws'
    go_enter Tryz.func29, Tryz.ntmps29
    go_wp2_with fail
    try rw [hW]
    refine (unhide Hop).mono ?_
    rintro e w1 ⟨rfl, k1, k2⟩
    have HF : Hid (LedWx X w1 B p u' ws' s' ∧ FrX X B tP w w1) := ⟨k1, (FrX.of_below (unhide Hb0)).trans k2⟩
    clear k1 k2
    go_wp2_with fail
    go_ret2
    exact ⟨rfl, (unhide HF).1, (unhide HF).2⟩
  by_cases h2 : kd = 2
  · subst h2
    have Hop := hide (dayCloseX_any X B p u ws s a W (unhide H0))
    have hcl : clE s 2 a b ls = (0, (cls s a).1, (cls s a).2) := rfl
    have hyl : clY s 2 a b ls = decide ((cls s a).1 = 0) := rfl
    have hxl : clX 2 a b ls = secB 2 a 0 [] := rfl
    rw [hcl, hyl, hxl]
    clear hcl hyl hxl
    obtain ⟨⟨y, s'⟩, hr⟩ : ∃ r, cls s a = r := ⟨_, rfl⟩
    rw [hr] at Hop ⊢
    simp only at Hop ⊢
    obtain ⟨u', hu'⟩ : ∃ u', dkU (decide (y = 0)) u = u' := ⟨_, rfl⟩
    obtain ⟨ws', hws'⟩ : ∃ ws', dkW (decide (y = 0)) u (secB 2 a 0 []) ws = ws' := ⟨_, rfl⟩
    rw [hu', hws'] at Hop ⊢
    clear hr h1 hu' hws'
    go_enter Tryz.func29, Tryz.ntmps29
    go_wp2_with fail
    try rw [hW]
    refine (unhide Hop).mono ?_
    rintro e w1 ⟨rfl, k1, k2⟩
    have HF : Hid (LedWx X w1 B p u' ws' s' ∧ FrX X B tP w w1) := ⟨k1, (FrX.of_below (unhide Hb0)).trans k2⟩
    clear k1 k2
    go_wp2_with fail
    go_ret2
    exact ⟨rfl, (unhide HF).1, (unhide HF).2⟩
  by_cases h3 : kd = 3
  · subst h3
    have Hop : Hid (∀ (wx : World) (v : Value), Below W.heap.size W wx → LinesAt wx v ls → (∀ k, v.ownBlock = some k → Tg wx k 84) → Calls Tryz.prog 49 #[.pointer (some ⟨p, 0, none⟩), .int .i64 a, .int .i64 b, v] wx fun e w' => e = .returned (.int .i64 (pst s a b ls).1) ∧ LedWx X w' B p (dkU (isN s a b ls) u) (dkW (isN s a b ls) u (secB 3 a b ls) ws) (pst s a b ls).2 ∧ FrX X B tP W w') := by
      intro wx v hb hl hty
      obtain ⟨va, vt, tv, vw, h1⟩ := unhide H0
      refine (dayPostX_any X B p u ws s a b v ls wx _ _ _ _ (h1.keptX hb) hl hty).mono ?_
      rintro e w1 ⟨rfl, k1, k2⟩
      exact ⟨rfl, k1, (FrX.of_below hb).trans k2⟩
    have hcl : clE s 3 a b ls = (0, (pst s a b ls).1, (pst s a b ls).2) := rfl
    have hyl : clY s 3 a b ls = isN s a b ls := rfl
    have hxl : clX 3 a b ls = secB 3 a b ls := rfl
    rw [hcl, hyl, hxl]
    clear hcl hyl hxl
    obtain ⟨⟨y, s'⟩, hr⟩ : ∃ r, pst s a b ls = r := ⟨_, rfl⟩
    rw [hr] at Hop ⊢
    simp only at Hop ⊢
    obtain ⟨u', hu'⟩ : ∃ u', dkU (isN s a b ls) u = u' := ⟨_, rfl⟩
    obtain ⟨ws', hws'⟩ : ∃ ws', dkW (isN s a b ls) u (secB 3 a b ls) ws = ws' := ⟨_, rfl⟩
    rw [hu', hws'] at Hop ⊢
    clear hr h1 h2 hu' hws'
    go_enter Tryz.func29, Tryz.ntmps29
    go_wp2_with fail
    try rw [hW]
    try rw [hbx]
    clear hW hbx
    refine (copied_any _ ls _ (unhide Hl0) hn).mono ?_
    rintro e w1 ⟨rfl, k1, k2⟩
    have y1 := ((unhide HX).kept k2).cell 1
    have y2 := ((unhide HX).kept k2).cell 2
    simp only [List.getElem?_toArray, List.getElem?_cons_zero, List.getElem?_cons_succ] at y1 y2
    have Hp := hide (unhide Hop w1 _ k2 (LinesAt.of_blk (cap := ls.length) k1) (fun k hk => by simp only [Value.ownBlock, Option.some.injEq] at hk; subst hk; exact k1.tg))
    clear k1 k2 x0 x1 x3
    go_wp2_with fail
    refine (unhide Hp).mono ?_
    rintro e w2 ⟨rfl, k1, k2⟩
    have HF : Hid (LedWx X w2 B p u' ws' s' ∧ FrX X B tP w w2) := ⟨k1, (FrX.of_below (unhide Hb0)).trans k2⟩
    clear k1 k2
    go_wp2_with fail
    go_ret2
    exact ⟨rfl, (unhide HF).1, (unhide HF).2⟩
  have hcl : clE s kd a b ls = (0, 0, s) := by unfold clE; rw [if_neg h1, if_neg h2, if_neg h3]
  have hyl : clY s kd a b ls = false := by unfold clY; rw [if_neg h1, if_neg h2, if_neg h3]
  rw [hcl, hyl]
  have n1 : (kd == 1) = false := by simpa using h1
  have n2 : (kd == 2) = false := by simpa using h2
  have n3 : (kd == 3) = false := by simpa using h3
  clear hcl hyl h1 h2 h3
  go_enter Tryz.func29, Tryz.ntmps29
  go_wp2_with fail
  go_ret2
  exact ⟨rfl, unhide H0, FrX.of_below (unhide Hb0)⟩


/-- The blocks that a book writes to. -/
def OwnB (p : Nat) (va vt vw : Value) (k : Nat) : Prop := k = p ∨ va.ownBlock = some k ∨ vt.ownBlock = some k ∨ vw.ownBlock = some k
end Go.Proofs.YtdchbenfccofpabGreatDoor
namespace Go.Proofs.YtdchbenfccofpabGreatDoor
open Go.RowKit Db

theorem LedAt.own_lt {w : World} {B p : Nat} {va vt : Value} {tv : List (Tn × Value)} {d : Dk} {s : Bk} (h : LedAt w B p va vt tv d s) : ∀ k, OwnB p va vt d.vw k → B ≤ k ∧ k < w.heap.size := by
  have own : ∀ {e : TypeId} {size : Nat} {v : Value} {n : Nat} {xs : List Value}, w.ownsRow B e size v n xs → ∀ k, v.ownBlock = some k → B ≤ k ∧ k < w.heap.size := by
    intro e size v n xs ho k hk
    obtain ⟨h1, cs, fz, h2⟩ := ownsRow_tg ho k hk
    exact ⟨h1, (Array.getElem?_eq_some_iff.1 h2).1⟩
  rintro k (rfl | hk | hk | hk)
  · exact ⟨h.lo, h.blk.lt⟩
  · exact own h.acs k hk
  · exact own h.txs.own k hk
  · exact own h.dsk k hk
/-- Two books, apart. -/
def Two (w : World) (B p p' : Nat) (s s' : Bk) : Prop := ∃ va vt tv d va' vt' tv' d', LedAt w B p va vt tv d s ∧ LedAt w B p' va' vt' tv' d' s' ∧ ∀ k, OwnB p va vt d.vw k → ¬ OwnB p' va' vt' d'.vw k
theorem Two.symm {w : World} {B p p' : Nat} {s s' : Bk} (h : Two w B p p' s s') : Two w B p' p s' s := by
  obtain ⟨va, vt, tv, d, va', vt', tv', d', h1, h2, h3⟩ := h
  exact ⟨va', vt', tv', d', va, vt, tv, d, h2, h1, fun k hk hk' => h3 k hk' hk⟩
theorem Two.left {w : World} {B p p' : Nat} {s s' : Bk} (h : Two w B p p' s s') : Led w B p s := by
  obtain ⟨va, vt, tv, d, va', vt', tv', d', h1, _, _⟩ := h; exact ⟨va, vt, tv, d, h1⟩
theorem Two.right {w : World} {B p p' : Nat} {s s' : Bk} (h : Two w B p p' s s') : Led w B p' s' := h.symm.left
theorem Two.kept {w w' : World} {B p p' : Nat} {s s' : Bk} (h : Two w B p p' s s') (hb : Below w.heap.size w w') : Two w' B p p' s s' := by
  obtain ⟨va, vt, tv, d, va', vt', tv', d', h1, h2, h3⟩ := h
  exact ⟨va, vt, tv, d, va', vt', tv', d', h1.kept hb, h2.kept hb, h3⟩
theorem LedAt.base' {w : World} {B B' p : Nat} {va vt : Value} {tv : List (Tn × Value)} {d : Dk} {s : Bk} (h : LedAt w B p va vt tv d s) (hB : B' ≤ B) : LedAt w B' p va vt tv d s :=
  ⟨h.blk, Nat.le_trans hB h.lo, ownsRow_base h.acs (fun k hk => Nat.le_trans hB (ownsRow_tg h.acs k hk).1), ⟨ownsRow_base h.txs.own (fun k hk => Nat.le_trans hB (ownsRow_tg h.txs.own k hk).1), fun x hx => ownsRow_base (h.txs.lns x hx) (fun k hk => Nat.le_trans hB (ownsRow_tg (h.txs.lns x hx) k hk).1)⟩, h.jr, h.good, ownsRow_base h.dsk (fun k hk => Nat.le_trans hB (ownsRow_tg h.dsk k hk).1), h.dlen, h.dcnt⟩
/-- A book that is made behind another one. -/
theorem Two.new {w w' : World} {B p p' : Nat} {s s' : Bk} (h : Led w B p s) (hB : B ≤ w.heap.size) (hb : Below w.heap.size w w') (h' : Led w' w.heap.size p' s') : Two w' B p p' s s' := by
  obtain ⟨va, vt, tv, d, h1⟩ := h
  obtain ⟨va', vt', tv', d', h2⟩ := h'
  refine ⟨va, vt, tv, d, va', vt', tv', d', h1.kept hb, h2.base' hB, fun k hk hk' => ?_⟩
  have a := (h1.own_lt k hk).2
  have b := (h2.own_lt k hk').1
  omega
theorem calledTwo_any (B p p' : Nat) (s s' : Bk) (kd a b : Int) (ao : Option Addr) (cap : Nat) (ls : List Ln) (w : World) (h : Two w B p p' s s') (hl : LinesAt w (.slice ao ls.length cap) ls) (hn : ls.length ≤ 8796093022000) :
    Calls Tryz.prog 29 #[.pointer (some ⟨p, 0, none⟩), .agg #[.int .i64 kd, .int .i64 a, .int .i64 b, .slice ao ls.length cap]] w fun e w' => e = .returned (.tuple #[.int .i64 (clE s kd a b ls).1, .int .i64 (clE s kd a b ls).2.1]) ∧ Two w' B p p' (clE s kd a b ls).2.2 s' ∧ FrT B tP w w' := by
  obtain ⟨va, vt, tv, ⟨u, vw, ws⟩, va', vt', tv', d', h1, h2, h3⟩ := h
  have hx : LedWx (OwnB p' va' vt' d'.vw) w B p u ws s := ⟨va, vt, tv, vw, h1, h3 p (.inl rfl), fun k hk => h3 k (.inr (.inl hk)), fun k hk => h3 k (.inr (.inr (.inl hk))), fun k hk => h3 k (.inr (.inr (.inr hk))), fun k hk => (h2.own_lt k hk).2⟩
  refine (calledX_any (OwnB p' va' vt' d'.vw) B p u ws s kd a b ao cap ls w hx hl hn).mono ?_
  rintro e w1 ⟨rfl, ⟨va1, vt1, tv1, vw1, k1⟩, k2⟩
  refine ⟨rfl, ⟨va1, vt1, tv1, _, va', vt', tv', d', k1.toLedAt, h2.keptF k2 (.inl rfl) (fun k hk => .inr (.inl hk)) (fun k hk => .inr (.inr (.inl hk))) (fun k hk => .inr (.inr (.inr hk))), ?_⟩, k2.fr⟩
  rintro k (rfl | hk | hk | hk)
  · exact k1.xp
  · exact k1.xa k hk
  · exact k1.xt k hk
  · exact k1.xw k hk
/-- One book, one text: one report. -/
theorem rep_uniq {b : Bk} {s u u' : ByteArray} {er er' : Int} (h : RepIs b s u er) (h' : RepIs b s u' er') : u' = u ∧ er' = er := by
  rcases h with ⟨h0, rfl, rfl⟩ | ⟨h0, rfl, h1, rfl⟩ | ⟨h0, pd, rows, pss, e0, pl, hf, ho, h⟩
  · rcases h' with ⟨_, rfl, rfl⟩ | ⟨k, _⟩ | ⟨k, _⟩
    · exact ⟨rfl, rfl⟩
    · omega
    · omega
  · rcases h' with ⟨k, _⟩ | ⟨_, rfl, _, rfl⟩ | ⟨_, pd, rows, pss, _, _, hf, _⟩
    · omega
    · exact ⟨rfl, rfl⟩
    · rw [hf.plc] at h1; omega
  · rcases h' with ⟨k, _⟩ | ⟨_, _, k, _⟩ | ⟨_, pd', rows', pss', e0', pl', hf', ho', h'⟩
    · omega
    · rw [hf.plc] at k; omega
    · obtain ⟨rfl, rfl⟩ := form_one hf hf'
      rw [ho] at ho'
      simp only [Prod.mk.injEq] at ho'
      obtain ⟨rfl, rfl⟩ := ho'
      rcases h with ⟨n, rfl, rfl⟩ | ⟨rfl, h1, rfl, rfl⟩ | ⟨rfl, h1, rfl, h2⟩
      · rcases h' with ⟨_, rfl, rfl⟩ | ⟨k, _⟩ | ⟨k, _⟩
        · exact ⟨rfl, rfl⟩
        · exact absurd k n
        · exact absurd k n
      · rcases h' with ⟨k, _⟩ | ⟨_, _, rfl, rfl⟩ | ⟨_, k, _⟩
        · exact absurd rfl k
        · exact ⟨rfl, rfl⟩
        · rw [h1] at k; cases k
      · rcases h' with ⟨k, _⟩ | ⟨_, k, _⟩ | ⟨_, _, rfl, k⟩
        · exact absurd rfl k
        · rw [h1] at k; cases k
        · exact ⟨L_inj (k.trans h2.symm), rfl⟩
end Go.Proofs.YtdchbenfccofpabGreatDoor
namespace Go.Proofs.YtdchbenfccofpabGreatDoor
open Go.RowKit Db

theorem Rec.frS {w w' : World} {B B' q : Nat} {s : Bk} (h : Rec w B q s) (hf : FrT B' [9] w w') : Rec w' B q s := by
  obtain ⟨vp, vc, vt, tv, h⟩ := h
  exact ⟨_, _, _, _, h.frT hf (by decide) (by decide)⟩
theorem Led.frS {w w' : World} {B B' p : Nat} {s : Bk} (h : Led w B p s) (hf : FrT B' [9] w w') : Led w' B p s := by
  obtain ⟨va, vt, tv, d, h⟩ := h
  exact ⟨_, _, _, _, h.frT hf (by decide) (by decide)⟩
/-- What is mounted of a book's disk is that book. -/
theorem LogW.mnt {rs : List Rc} {n : Nat} {t : KS} (h : LogW rs n t) {u : ByteArray} (hu : L u = dskL rs) : ImgOk (L u) ∧ (mntS (L u)).s = t.s ∧ (mntS (L u)).u = t.u := by
  obtain ⟨t', h1, h2, h3⟩ := h.log
  have hm := h1.mount (by have := h.small; omega)
  rw [hu]
  exact ⟨hm.2, by rw [hm.1, h2], by rw [hm.1, h3]⟩
theorem LogW.oks {rs : List Rc} {n : Nat} {t : KS} (h : LogW rs n t) : ∀ r ∈ rs, RcOk r := by
  obtain ⟨t', h1, h2, h3⟩ := h.log
  exact h1.facts.2.2.1
theorem dsk_pos {rs : List Rc} (h : ∀ r ∈ rs, RcOk r) : ∀ s ∈ dskS rs, s.size = 64 := by
  intro s hs
  unfold dskS at hs
  rw [List.mem_append] at hs
  rcases hs with hs | hs
  · rw [List.mem_map] at hs
    obtain ⟨r, hr, rfl⟩ := hs
    exact secA_size (h r hr)
  · rw [List.eq_of_mem_replicate hs]; decide
set_option maxRecDepth 100000 in
set_option maxHeartbeats 16000000 in
theorem resumed_walk (v : Value) (xs : List KAct) (v' : Value) (ys : List KAct) (t : ByteArray) (w : World) (h : KActsAt w w.heap.size v xs) (hlen : xs.length ≤ 9223372036854775800) (h' : KActsAt w w.heap.size v' ys) (hlen' : ys.length ≤ 9223372036854775800) (hm : t.size ≤ maxLen) (ht : Tab w) :
    Calls Tryz.prog 5 #[v, v', .string t] w fun e w' => e = .returned (.bool true) ∧ Below w.heap.size w w' := by
  have HT : Hid (∀ w', Below w.heap.size w w' → Tab w') := fun w' hf => ht.below hf
  obtain ⟨ao, cap, rfl⟩ : ∃ ao cap, v = .slice ao xs.length cap := by obtain ⟨⟨ao, cap, rfl, _⟩, _⟩ := h; exact ⟨ao, cap, rfl⟩
  obtain ⟨ao', cap', rfl⟩ : ∃ ao cap, v' = .slice ao ys.length cap := by obtain ⟨⟨ao, cap, rfl, _⟩, _⟩ := h'; exact ⟨ao, cap, rfl⟩
  have H := hide h
  have H' := hide h'
  have Hm := hide hm
  have Hr := hide (ready_any w ht)
  clear h h' ht hm
  go_enter Tryz.func5, Tryz.ntmps5
  go_wp2_with fail
  refine (unhide Hr).mono ?_
  rintro e w1 ⟨q0, p0, rfl, _, hb1⟩
  have Hb1 := hide hb1
  have hsz1 := hb1.size
  clear hb1 Hr
  go_wp2_with fail
  refine (dayNew_any w1).mono ?_
  rintro e w2 ⟨p, rfl, hn2, hb2⟩
  have HL2 : Hid (LedW w2 w.heap.size p 0 [] bk0) := hn2.base hsz1
  have Hb2 := hide ((unhide Hb1).then' hsz1 hb2)
  have hsz2 := (unhide Hb2).size
  clear hn2 hb2
  go_wp2_with fail
  refine (blank_any w2).mono ?_
  rintro e w3 ⟨q, rfl, hr3, hb3⟩
  have HP3 : Hid (KP w3 w.heap.size q p ⟨bk0, 0, []⟩) := ⟨hr3.base hsz2, (unhide HL2).kept hb3⟩
  have Hb3 := hide ((unhide Hb2).then' hsz2 hb3)
  clear hr3 hb3 HL2
  go_wp2_with fail
  go_loopg [9, 12] xs.length (fun m vo i wr => ∃ j : Nat, j ≤ xs.length ∧ m = xs.length - j ∧ i = .int .i64 j ∧ vo = .bool true ∧ Hid (KP wr w.heap.size q p (krun ⟨bk0, 0, []⟩ (xs.take j))) ∧ Hid (Below w.heap.size w wr))
  case atStart => exact ⟨0, by omega, rfl, rfl, rfl, unhide HP3, unhide Hb3⟩
  case round =>
    obtain ⟨j, hj, rfl, rfl, rfl, HP, Hb⟩ := hrel
    by_cases hlt : j < xs.length
    · obtain ⟨x, hx⟩ : ∃ x, xs[j]? = some x := ⟨xs[j], List.getElem?_eq_getElem hlt⟩
      have hat := (unhide H).below (unhide Hb)
      have Hst := hide (krun_step (t := ⟨bk0, 0, []⟩) hx)
      have hok := hat.oks x (List.mem_of_getElem? hx)
      obtain ⟨⟨ao'', cap'', e1, hr⟩, _⟩ := hat
      simp only [Value.slice.injEq, true_and] at e1
      obtain ⟨rfl, rfl⟩ := e1
      have hr2 := hr.resolve_left (by rintro rfl; simp at hx)
      obtain ⟨b, off, rfl, hbl, hc⟩ := hr2
      obtain ⟨d0, d1, d2, d3⟩ := hc j x hx
      have hjj : (j : Int) < (xs.length : Int) := by omega
      have hsz := (unhide Hb).size
      obtain ⟨tt, htt⟩ : ∃ tt, krun ⟨bk0, 0, []⟩ (xs.take j) = tt := ⟨_, rfl⟩
      rw [htt] at HP Hst
      obtain ⟨kd, xa, xb, xao, xcap, ls⟩ := x
      simp only at d0 d1 d2 d3 hok
      have Hdo := hide (says_any w.heap.size q p tt.u tt.ws tt.s kd xa xb xao xcap ls wr (unhide HP).rec' (unhide HP).led (fun w' hf => hok.at'.belowK (hf.below hsz) hok.lo) hok.few)
      clear hr hc hx hok htt
      go_wp2_with fail
      refine (unhide Hdo).mono ?_
      rintro e w4 ⟨rfl, h1, h2, h3⟩
      have HP2 : Hid (KP w4 w.heap.size q p (krun ⟨bk0, 0, []⟩ (xs.take (j + 1)))) := by show KP _ _ _ _ _; rw [unhide Hst]; exact ⟨h1, h2⟩
      have Hb4 : Hid (Below w.heap.size w w4) := (unhide Hb).trans (h3.below hsz)
      clear h1 h2 h3 Hdo
      go_wp2_with fail
      go_roundg (xs.length - (j + 1))
      case measure => omega
      case rel => exact ⟨j + 1, by omega, rfl, by go_num, rfl, unhide HP2, unhide Hb4⟩
    · obtain rfl : j = xs.length := by omega
      obtain ⟨rs, hrs⟩ := LogW.start.run xs
      have HP4 := unhide HP
      rw [List.take_length] at HP4
      obtain ⟨tt, htt⟩ : ∃ tt, krun ⟨bk0, 0, []⟩ xs = tt := ⟨_, rfl⟩
      rw [htt] at HP4 hrs
      have HQ := hide HP4
      have Hrs := hide hrs
      have hws := hrs.ws
      have hsm := hrs.small
      have hwl := hws.len
      rw [List.drop_zero] at hws hwl
      have HW := hide hws
      have Hpr := hide (hws.pr hrs.oks (by omega))
      have hsz := (unhide Hb).size
      have hw100 : tt.ws.length ≤ 100000 := by omega
      clear HP htt hrs hws HP4 HP3 Hb3 hwl
      go_wp2_with fail
      refine (empty_any wr).mono ?_
      rintro e w4 ⟨pd, rfl, hd4, hb4⟩
      have HD4 := hide hd4
      have HQ4 := hide ((unhide HQ).kept hb4)
      have Hb4 := hide ((unhide Hb).then' hsz hb4)
      have hsz4 := (unhide Hb4).size
      clear hd4 hb4 HQ
      go_wp2_with fail
      refine (dayWrites_any w.heap.size p tt.u tt.ws tt.s w4 (unhide HQ4).led).mono ?_
      rintro e w5 ⟨⟨aw, cw, rfl, k1⟩, k2, k3⟩
      have HL5 := hide k2.led
      have HR5 := hide ((unhide HQ4).rec'.frB k3)
      have HD5 := hide ((unhide HD4).frT k3 (by decide) (by decide))
      have HO5 := hide k1
      have Hb5 : Hid (Below w.heap.size w w5) := (unhide Hb4).trans (k3.below hsz4)
      have hsz5 := (unhide Hb5).size
      clear k1 k2 k3 HD4 HQ4
      go_wp2_with fail
      refine (proper_any _ aw cw tt.ws w5 (unhide HO5) (unhide Hpr) hw100).mono ?_
      rintro e w6 ⟨rfl, hb6⟩
      have HL6 := hide ((unhide HL5).kept hb6)
      have HR6 := hide ((unhide HR5).kept hb6)
      have HD6 := hide ((unhide HD5).kept hb6)
      have HO6 := hide (ownsRow_below (unhide HO5) hb6)
      have Hb6 := hide ((unhide Hb5).then' hsz5 hb6)
      have hsz6 := (unhide Hb6).size
      clear hb6 HL5 HR5 HD5 HO5
      go_wp2_with fail
      refine (crash_any _ _ pd _ aw cw tt.ws tt.ws.length (-1) w6 (unhide HD6) (by rw [List.length_replicate]) (unhide HO6) (unhide Hpr) hw100 (Nat.le_refl _)).mono ?_
      rintro e w7 ⟨rfl, ⟨ch, hch, k1⟩, k2⟩
      have HD7 : Hid (DskAt w7 wr.heap.size pd (dskS rs)) := by
        have hc := crF_all (ws := tt.ws) (n := 0) (all := rs) (by rw [List.drop_zero]; exact unhide HW) (Nat.zero_le _) (by omega) ch (hch rfl) (flF tt.ws tt.ws.length)
        have e : dskS (rs.take 0) = List.replicate 128 zB := rfl
        rw [e] at hc
        rw [hc] at k1
        exact k1
      have HL7 := hide ((unhide HL6).frS k2)
      have HR7 := hide ((unhide HR6).frS k2)
      have Hb7 : Hid (Below w.heap.size w w7) := (unhide Hb6).trans ((k2.base (B' := w.heap.size) hsz).below hsz6)
      have hsz7 := (unhide Hb7).size
      clear k1 k2 hch HD6 HL6 HR6 HO6
      go_wp2_with fail
      refine (dimage_any wr.heap.size pd (dskS rs) w7 (unhide HD7) (fun s hs => by rw [dsk_pos (unhide Hrs).oks s hs]; omega) (by rw [dskS_len (by omega)]; omega) (by rw [dskS_flat (by omega)]; unfold dskL; rw [List.length_append, List.length_replicate]; omega)).mono ?_
      rintro e w8 ⟨u8, rfl, hu8, hb8⟩
      rw [dskS_flat (by omega)] at hu8
      have hmt := (unhide Hrs).mnt hu8
      have HL8 := hide ((unhide HL7).kept hb8)
      have HR8 := hide ((unhide HR7).kept hb8)
      have Hb8 := hide ((unhide Hb7).then' hsz7 hb8)
      have hsz8 := (unhide Hb8).size
      have Hmt := hide hmt
      clear hu8 hb8 HD7 HL7 HR7 hmt
      go_wp2_with fail
      refine (mount_any u8 w8).mono ?_
      rintro e w9 ⟨k1, k2⟩
      have k1' := k1.resolve_left (fun k => k.1 (unhide Hmt).1)
      obtain ⟨_, pm, rfl, k3⟩ := k1'
      rw [(unhide Hmt).2.1, (unhide Hmt).2.2] at k3
      have HT9 : Hid (Two w9 w.heap.size p pm tt.s tt.s) := Two.new (unhide HL8) hsz8 k2 k3.led
      have HR9 := hide ((unhide HR8).kept k2)
      have Hb9 := hide ((unhide Hb8).then' hsz8 k2)
      have hsz9 := (unhide Hb9).size
      clear k1 k2 k3 HL8 HR8 Hmt
      go_wp2_with fail
      refine (tells_any w.heap.size w.heap.size q pm tt.s w9 (unhide HR9) (unhide HT9).right (unhide HT _ (unhide Hb9))).mono ?_
      rintro e w10 ⟨rfl, hb10⟩
      have HT10 := hide ((unhide HT9).kept hb10)
      have Hb10 := hide ((unhide Hb9).then' hsz9 hb10)
      clear hb10 HR9 HT9 HW Hpr Hrs Hb
      go_wp2_with fail
      go_loopg [9, 17] ys.length (fun m vo i wr => ∃ j : Nat, j ≤ ys.length ∧ m = ys.length - j ∧ i = .int .i64 j ∧ vo = .bool true ∧ Hid (∃ s, Two wr w.heap.size p pm s s) ∧ Hid (Below w.heap.size w wr))
      case atStart => exact ⟨0, by omega, rfl, rfl, rfl, ⟨_, unhide HT10⟩, unhide Hb10⟩
      case round =>
        obtain ⟨j, hj, rfl, rfl, rfl, HTW, Hb⟩ := hrel
        have hsz := (unhide Hb).size
        by_cases hlt : j < ys.length
        · obtain ⟨x, hx⟩ : ∃ x, ys[j]? = some x := ⟨ys[j], List.getElem?_eq_getElem hlt⟩
          have hat := (unhide H').below (unhide Hb)
          have hok := hat.oks x (List.mem_of_getElem? hx)
          obtain ⟨⟨ao'', cap'', e1, hr⟩, _⟩ := hat
          simp only [Value.slice.injEq, true_and] at e1
          obtain ⟨rfl, rfl⟩ := e1
          have hr2 := hr.resolve_left (by rintro rfl; simp at hx)
          obtain ⟨b, off, rfl, hbl, hc⟩ := hr2
          obtain ⟨d0, d1, d2, d3⟩ := hc j x hx
          have hjj : (j : Int) < (ys.length : Int) := by omega
          obtain ⟨s, htw⟩ := unhide HTW
          obtain ⟨kd, xa, xb, xao, xcap, ls⟩ := x
          simp only at d0 d1 d2 d3 hok
          have hgd : BkGood s := by obtain ⟨_, _, _, _, k⟩ := htw.left; exact k.good
          have Hgd := hide (clE_good hgd kd xa xb ls)
          have Hc := hide (calledTwo_any w.heap.size p pm s s kd xa xb xao xcap ls wr htw hok.at' hok.few)
          have Hc2 : Hid (∀ (w' : World) (s' : Bk), FrT w.heap.size tP wr w' → Two w' w.heap.size p pm s' s → Calls Tryz.prog 29 #[.pointer (some ⟨pm, 0, none⟩), .agg #[.int .i64 kd, .int .i64 xa, .int .i64 xb, .slice xao ls.length xcap]] w' fun e w'' => e = .returned (.tuple #[.int .i64 (clE s kd xa xb ls).1, .int .i64 (clE s kd xa xb ls).2.1]) ∧ Two w'' w.heap.size p pm s' (clE s kd xa xb ls).2.2 ∧ FrT w.heap.size tP w' w'') := fun w' s' hf h2 => (calledTwo_any w.heap.size pm p s s' kd xa xb xao xcap ls w' h2.symm (hok.at'.belowK (hf.below hsz) hok.lo) hok.few).mono (fun e w'' ⟨a, b, c⟩ => ⟨a, b.symm, c⟩)
          obtain ⟨⟨n, er, s1⟩, hcl⟩ : ∃ r, clE s kd xa xb ls = r := ⟨_, rfl⟩
          rw [hcl] at Hc Hc2 Hgd
          simp only at Hc Hc2 Hgd
          clear hr hc hx hok hcl hgd htw HTW
          go_wp2_with fail
          refine (unhide Hc).mono ?_
          rintro e w11 ⟨rfl, k1, k2⟩
          have HT11 := hide k1
          have Hf11 := hide k2
          have hb11 := k2.below hsz
          have f0 := (hb11.cell (p := ⟨b, off + j * 4, none⟩) hbl).trans d0
          have f1 := (hb11.cell (p := ⟨b, off + j * 4 + 1, none⟩) hbl).trans d1
          have f2 := (hb11.cell (p := ⟨b, off + j * 4 + 2, none⟩) hbl).trans d2
          have f3 := (hb11.cell (p := ⟨b, off + j * 4 + 3, none⟩) hbl).trans d3
          have Hb11 := hide ((unhide Hb).trans hb11)
          have hsz11 := (unhide Hb11).size
          clear k1 k2 hb11 d0 d1 d2 d3 Hc
          go_wp2_with fail
          refine (unhide Hc2 w11 s1 (unhide Hf11) (unhide HT11)).mono ?_
          rintro e w12 ⟨rfl, k1, k2⟩
          have HT12 := hide k1
          have Hb12 : Hid (Below w.heap.size w w12) := (unhide Hb11).trans (k2.below hsz11)
          have hsz12 := (unhide Hb12).size
          clear k1 k2 f0 f1 f2 f3 Hc2 HT11 Hf11
          go_wp2_with fail
          refine (dayReport_any w.heap.size p s1 t w12 (unhide HT12).left (unhide Hm) (unhide HT _ (unhide Hb12))).mono ?_
          rintro e w13 ⟨x, g, rfl, hrp, hb13⟩
          have Hrp := hide hrp
          have HT13 := hide ((unhide HT12).kept hb13)
          have Hb13 := hide ((unhide Hb12).then' hsz12 hb13)
          have hsz13 := (unhide Hb13).size
          clear hrp hb13 HT12
          go_wp2_with fail
          refine (dayReport_any w.heap.size pm s1 t w13 (unhide HT13).right (unhide Hm) (unhide HT _ (unhide Hb13))).mono ?_
          rintro e w14 ⟨x', g', rfl, hrp, hb14⟩
          obtain ⟨rfl, rfl⟩ := rep_uniq (unhide Hrp) hrp
          have HT14 := hide ((unhide HT13).kept hb14)
          have Hb14 := hide ((unhide Hb13).then' hsz13 hb14)
          have hsz14 := (unhide Hb14).size
          clear hrp hb14 HT13 Hrp
          go_wp2_with fail
          refine (dayAccounts_any w.heap.size p s1 w14 (unhide HT14).left (unhide HT _ (unhide Hb14))).mono ?_
          rintro e w15 ⟨ua, rfl, hua, hb15⟩
          have hza : ua.size ≤ 500 := by rw [← L_length, hua]; exact accT_sz (unhide Hgd)
          have Hua := hide hua
          have HT15 := hide ((unhide HT14).kept hb15)
          have Hb15 := hide ((unhide Hb14).then' hsz14 hb15)
          have hsz15 := (unhide Hb15).size
          have zA : (ua ++ (⟨#[124]⟩ : ByteArray)).size ≤ 501 := by rw [ByteArray.size_append]; show ua.size + 1 ≤ 501; omega
          clear hua hb15 HT14
          go_wp2_with fail
          refine (dayJournal_any w.heap.size p s1 w15 (unhide HT15).left (unhide HT _ (unhide Hb15))).mono ?_
          rintro e w16 ⟨uj, rfl, huj, hb16⟩
          have hzj : uj.size ≤ 30000 := by rw [← L_length, huj]; exact jrT_sz (unhide Hgd)
          have Huj := hide huj
          have HT16 := hide ((unhide HT15).kept hb16)
          have Hb16 := hide ((unhide Hb15).then' hsz15 hb16)
          have hsz16 := (unhide Hb16).size
          clear huj hb16 HT15
          go_wp2_with fail
          refine (dayAccounts_any w.heap.size pm s1 w16 (unhide HT16).right (unhide HT _ (unhide Hb16))).mono ?_
          rintro e w17 ⟨ub, rfl, hub, hb17⟩
          obtain rfl : ub = ua := L_inj (hub.trans (unhide Hua).symm)
          have HT17 := hide ((unhide HT16).kept hb17)
          have Hb17 := hide ((unhide Hb16).then' hsz16 hb17)
          have hsz17 := (unhide Hb17).size
          clear hub hb17 HT16
          go_wp2_with fail
          refine (dayJournal_any w.heap.size pm s1 w17 (unhide HT17).right (unhide HT _ (unhide Hb17))).mono ?_
          rintro e w18 ⟨uk, rfl, huk, hb18⟩
          obtain rfl : uk = uj := L_inj (huk.trans (unhide Huj).symm)
          have HT18 := hide ((unhide HT17).kept hb18)
          have Hb18 := hide ((unhide Hb17).then' hsz17 hb18)
          clear huk hb18 HT17
          go_wp2_with fail
          go_roundg (ys.length - (j + 1))
          case measure => omega
          case rel => exact ⟨j + 1, by omega, rfl, by go_num, rfl, ⟨_, unhide HT18⟩, unhide Hb18⟩
        · obtain rfl : j = ys.length := by omega
          go_wp2_with fail
          go_ret
          exact ⟨rfl, unhide Hb⟩
end Go.Proofs.YtdchbenfccofpabGreatDoor
