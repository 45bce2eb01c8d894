/- Own texts of the theorem in YtdchbenfccofpaaGreatDoorWAlY, part 05. -/
import Derived.Test.YtdchbenfccofpaaGreatDoorJ04
import Derived.Deep.AppendLies
import Derived.Deep.RegionLaw
import Derived.Laws.CopyOwn
import Derived.Laws.MakeOwn
set_option maxRecDepth 100000
set_option maxHeartbeats 4000000
namespace Go.Proofs.YtdchbenfccofpaaGreatDoor
open Go.RowKit Db
theorem layX_any (X : Nat → Prop) (B p u : Nat) (va vt vw : Value) (ws : List Wr) (k : Nat) (n d : Int) (v : Value) (ls : List Ln) (w : World) (hblk : Blk w p #[va, vt, .int .i64 (u : Int), vw] 102) (hB : B ≤ p) (how : w.ownsRow B 153 2 vw ws.length (cellsW ws)) (hwl : ws.length ≤ 2 * u) (hu : u ≤ 95) (hxp : ¬ X p) (hxw : ∀ k, vw.ownBlock = some k → ¬ X k) (top : ∀ k, X k → k < w.heap.size)
  (hk : k < 256) (hn : AmtOk n) (hd : AmtOk d) (hl : LinesAt w v ls) (h4 : ls.length ≤ 4) (hls : ∀ l ∈ ls, AmtOk l.1 ∧ AmtOk l.2) :
  Calls Tryz.prog 103 #[.pointer (some ⟨p, 2, none⟩), .agg #[.int .u8 (k : Int), .int .i64 n, .int .i64 d, v]] w fun e w' => e = .returned (.tuple #[]) ∧ (∃ vw', Blk w' p #[va, vt, .int .i64 ((u + 1 : Nat) : Int), vw'] 102 ∧ w'.ownsRow B 153 2 vw' (ws.length + 1 + 1) (cellsW (ws ++ [((u : Int), secB k n d ls), (-1, ⟨#[]⟩)])) ∧ ∀ k, vw'.ownBlock = some k → ¬ X k) ∧ FrX X B [102, 153] w w' := by
 obtain ⟨ii, hi, hz0, hz1, hz2⟩ := info_parts info_write
 obtain ⟨ao, cap, rfl⟩ := hl.form
 obtain ⟨aw, cw, rfl⟩ := oForm how
 obtain ⟨bx, hbx⟩ : ∃ bx, w.heap.size = bx := ⟨_, rfl⟩
 obtain ⟨W, hW⟩ : ∃ W, w.alloc (.cells #[.int .u8 (k : Int), .int .i64 n, .int .i64 d, .slice ao ls.length cap] 173) = W := ⟨_, rfl⟩
 have HX : Hid (Blk W bx #[.int .u8 (k : Int), .int .i64 n, .int .i64 d, .slice ao ls.length cap] 173) := by rw [← hW, ← hbx]; exact Blk.new _ _ _
 have Hb0 : Hid (Below w.heap.size w W) := by rw [← hW]; exact (Below.refl _ _).alloc (Nat.le_refl _) _
 have Hsec := hI (sector_any k n d _ ls W hk hn hd (hl.kept Hb0.u) h4 hls)
 have HK0 := hI (hblk.kept Hb0.u)
 have HO0 := hI (oBelow how Hb0.u)
 have x0 := HX.u.cell 0
 have x1 := HX.u.cell 1
 have x2 := HX.u.cell 2
 have x3 := HX.u.cell 3
 simp only [List.getElem?_toArray, List.getElem?_cons_zero, List.getElem?_cons_succ] at x0 x1 x2 x3
 obtain ⟨sx, hsx⟩ : ∃ sx, secB k n d ls = sx := ⟨_, rfl⟩
 rw [hsx] at Hsec ⊢
 have Htop := hI top
 have Hxw : Hid (∀ k, (Value.slice aw ws.length cw).ownBlock = some k → ¬ X k) := hxw
 clear hblk how hn hd hl hls hsx hk top hxw
 go_enter Tryz.func103, Tryz.ntmps103
 go_wp2_with fail
 try rw [hW]
 try rw [hbx]
 clear hW hbx
 refine Hsec.u.mono ?_
 rintro e w1 ⟨rfl, hb1⟩
 have HK1 := hI (HK0.u.kept hb1)
 have HO1 := hI (oBelow HO0.u hb1)
 have HF1 : Hid (FrX X B [102, 153] w w1) := (FrX.of_below Hb0.u).then hb1
 have c2 := HK1.u.cell 2
 have c3 := HK1.u.cell 3
 have z3 := HK1.u.frozen 3
 have lq := HK1.u.lt
 simp only [List.getElem?_toArray, List.getElem?_cons_zero, List.getElem?_cons_succ] at c2 c3
 have hBw : B ≤ w1.heap.size := by omega
 have Hnb : Hid (Blk (w1.alloc (.cells #[.int .i64 (u : Int), .string sx] 153)) w1.heap.size #[.int .i64 (u : Int), .string sx] 153) := Blk.new _ _ _
 have hne1 : w1.heap.size ≠ p := by omega
 have hws : w.heap.size ≤ w1.heap.size := HF1.u.fr.size
 clear hb1 x0 x1 x2 x3
 go_upto_region 2 with fail
 go_region_law (refine step_append_lies _ rfl (.tmp 11) (.tmp 18) 72 rfl B 153 ii (.agg #[.int .i64 0, .string ⟨#[]⟩]) 2 24 Tryz.underlying72 hi hz0 hz1 hz2 rfl (by decide) (.slice aw ws.length cw) ws.length _ (by simp [Act.eval]) (by first | exact (HO1.u.alloc _).drew | exact (HO1.u.alloc _)) ⟨w1.heap.size, 0, none⟩ 1 1 [.int .i64 (u : Int), .string sx] (by simp [Act.eval]) rfl (World.news_of_block (by exact Hnb.u)) (fun x hx => by simp at hx; rcases hx with rfl | rfl <;> rfl) (by decide) (by unfold maxLen; omega) (by omega) (by simp <;> omega) (w1.heap.size + 1) (by simp) ?_; intro gf cf w5 hown5 hgr5 hat5 hlt5; have hblk5 := Blk.grown (cs := #[va, vt, .int .i64 (u : Int), .slice aw ws.length cw]) (T := 102) (b := p) (by exact (HK1.u.alloc _)) hgr5 (blk_own_ne HK1.u HO1.u (by decide)); have c5 := hblk5.cell 3; have z5 := hblk5.frozen 3; have e5 := hblk5.cell 2; have y5 := hblk5.frozen 2; have l5 := hblk5.lt; simp only [List.getElem?_toArray, List.getElem?_cons_zero, List.getElem?_cons_succ] at c5 e5; have Hblk5 := hI hblk5; have Hown5 := hI hown5; have Hgr5 := hI hgr5; have Hx5 : Hid (¬ X gf) := (by intro hX; rcases hat5 with e | e; exact Hxw.u gf e hX; have := Htop.u gf hX; omega); clear hblk5 hown5 hgr5 hat5)
 all_goals
  have Hf1 : Hid (FrX X B [153] w1 w5) := ((((FrX.refl _ _ w1).alloc _).drew).grown Hgr5.u (T := 153) (by simp) (fun j hj => ⟨(oTg HO1.u j hj).1, tg_alloc (oTg HO1.u j hj).2 _⟩) Hxw.u)
  have hs5 : w1.heap.size ≤ w5.heap.size := Hf1.u.fr.size
  have Hown6 := hI (fun v => oFrT Hown5.u ((FrT.refl B [102] w5).setCell (p := ⟨p, 3, none⟩) (T := 102) (by simp) Hblk5.u.tg hB v) (by decide))
  have Hblk6 := hI (fun v => Hblk5.u.set 3 v)
  go_wp2_with (first
   | (at_builtin; refine wpList_append_own_at _ rfl (.tmp 26) (.tmp 28) 72 rfl B 153 ii (.agg #[.int .i64 0, .string ⟨#[]⟩]) 2 24 Tryz.underlying72 hi hz0 hz1 hz2 rfl (by decide) (.slice (some ⟨gf, 0, none⟩) (ws.length + 1) cf) (ws.length + 1) _ rfl ((Hown6.u _).alloc _) ⟨w5.heap.size, 0, none⟩ 1 1 [.int .i64 (-1), .string ⟨#[]⟩] rfl rfl (new2 _ _ (by simp [World.setCell]) _ _ _) (fun x hx => by simp at hx; rcases hx with rfl | rfl <;> rfl) (by unfold maxLen; omega) (by omega) (by simp [World.setCell]; omega) ?_; intro vq' w6 hown6 hgr6 _ hat6; obtain ⟨gh, ch, rfl, hgh, hgh'⟩ := oSome hown6 (Nat.succ_pos _); have hblk6 := ((Hblk6.u _).alloc _).grown hgr6 (blk_own_ne (Hblk6.u vt) (Hown6.u vt) (by decide)); simp only [List.setIfInBounds_toArray, List.set_cons_zero, List.set_cons_succ] at hblk6; have c6 := hblk6.cell 3; have z6 := hblk6.frozen 3; have l6 := hblk6.lt; have e6 := hblk6.cell 2; have y6 := hblk6.frozen 2; simp only [List.getElem?_toArray, List.getElem?_cons_zero, List.getElem?_cons_succ] at c6 e6; have Hbl6 := hI hblk6; have Hown6' := hI hown6; have Hgr6 := hI hgr6; have Hat6 := hI hat6; clear hblk6 hown6 hgr6 hat6))
  go_end0
  have hx6 : ¬ X gh := by
   intro hX
   rcases Hat6.u with e | e
   ·simp only [Value.ownBlock, Option.some.injEq] at e; subst e; exact Hx5.u hX
   ·simp [Value.ownBlock, World.setCell] at e; have := Htop.u _ hX; omega
  have g1 := (FrX.refl (X := X) B [102, 153] w5).setCell (p := ⟨p, 3, none⟩) (T := 102) (by simp) Hblk5.u.tg hB hxp (.slice (some ⟨gf, 0, none⟩) (ws.length + 1) cf)
  have g2 := (g1.alloc (.cells #[.int .i64 (-1), .string ⟨#[]⟩] 153)).grown Hgr6.u (T := 153) (by simp) (fun j hj => ⟨(oTg (Hown6.u vt) j hj).1, tg_alloc (oTg (Hown6.u (.slice (some ⟨gf, 0, none⟩) (ws.length + 1) cf)) j hj).2 _⟩) (fun j hj => by simp only [Value.ownBlock, Option.some.injEq] at hj; subst hj; exact Hx5.u)
  have b7 := Hbl6.u.set 3 (.slice (some ⟨gh, 0, none⟩) (ws.length + 1 + 1) ch)
  have b8 := b7.set 2 (.int .i64 ((u + 1 : Nat) : Int))
  simp only [List.setIfInBounds_toArray, List.set_cons_zero, List.set_cons_succ] at b8
  have g3 := (g2.setCell (p := ⟨p, 3, none⟩) (T := 102) (by simp) Hbl6.u.tg hB hxp (.slice (some ⟨gh, 0, none⟩) (ws.length + 1 + 1) ch)).setCell (p := ⟨p, 2, none⟩) (T := 102) (by simp) b7.tg hB hxp (.int .i64 ((u + 1 : Nat) : Int))
  have g4 := ((FrT.refl B [102] w6).setCell (p := ⟨p, 3, none⟩) (T := 102) (by simp) Hbl6.u.tg hB (.slice (some ⟨gh, 0, none⟩) (ws.length + 1 + 1) ch)).setCell (p := ⟨p, 2, none⟩) (T := 102) (by simp) b7.tg hB (.int .i64 ((u + 1 : Nat) : Int))
  refine ⟨rfl, ⟨_, b8, ?_, fun k hk => by simp only [Value.ownBlock, Option.some.injEq] at hk; subst hk; exact hx6⟩, (HF1.u.trans (Hf1.u.mono (by simp))).trans g3⟩
  have := oFrT Hown6'.u g4 (by decide)
  simpa [cellsW] using this
theorem LedAx.laidX {X : Nat → Prop} {w w2 : World} {B p u : Nat} {va vt vw vw' : Value} {tv : List (Tn × Value)} {ws : List Wr} {s : Bk} {x : ByteArray} (h : LedAx X w B p va vt tv ⟨u, vw, ws⟩ s) (hc : u < cnt s) (hb : Blk w2 p #[va, vt, .int .i64 ((u + 1 : Nat) : Int), vw'] 102)
  (ho : w2.ownsRow B 153 2 vw' (ws.length + 1 + 1) (cellsW (ws ++ [((u : Int), x), (-1, ⟨#[]⟩)]))) (hf : FrX X B [102, 153] w w2) (hx : ∀ k, vw'.ownBlock = some k → ¬ X k) : LedAx X w2 B p va vt tv ⟨u + 1, vw', ws ++ [((u : Int), x), (-1, ⟨#[]⟩)]⟩ s :=
 ⟨h.toLedAt.laid hc hb ho hf.fr, h.xp, h.xa, h.xt, hx, fun k hk => Nat.lt_of_lt_of_le (h.top k hk) hf.fr.size⟩
theorem dayOpenX_any (X : Nat → Prop) (B p u : Nat) (ws : List Wr) (s : Bk) (a : Int) (w : World) (h : LedWx X w B p u ws s) :
  Calls Tryz.prog 66 #[.pointer (some ⟨p, 0, none⟩), .int .i64 a] w fun e w' => e = .returned (.tuple #[.int .i64 (opn s a).1, .int .i64 (opn s a).2.1]) ∧ LedWx X w' B p (dkU (decide ((opn s a).2.1 = 0)) u) (dkW (decide ((opn s a).2.1 = 0)) u (secB 1 a 0 []) ws) (opn s a).2.2 ∧ FrX X B tP w w' := by
 obtain ⟨va, vt, tv, vw, h⟩ := h
 have hg := h.good
 have hcn := h.dcnt
 have hbd := cnt_bound hg
 simp only at hcn
 have Hc := hI (ledOpenX_any X B p ⟨u, vw, ws⟩ s a w ⟨va, vt, tv, h⟩)
 have hor := opn_cnt hg a
 obtain ⟨⟨x, y, s'⟩, hr⟩ : ∃ r, opn s a = r := ⟨_, rfl⟩
 rw [hr] at Hc hor ⊢
 simp only at Hc hor ⊢
 clear h hr hg
 rcases hor with ⟨rfl, h0, h1, h2⟩ | ⟨hy, rfl⟩
 ·simp only [decide_true]
  have hn : AmtOk a := ⟨by omega, by omega⟩
  have hz : AmtOk 0 := ⟨by omega, by omega⟩
  have hlt : u < cnt s' := by omega
  have hu : u ≤ 95 := by omega
  go_enter Tryz.func66, Tryz.ntmps66
  go_wp2_with fail
  refine Hc.u.mono ?_
  rintro e w1 ⟨rfl, ⟨va1, vt1, tv1, k1⟩, k2⟩
  have HL := hI (layX_any X B p u va1 vt1 vw ws 1 a 0 _ [] w1 k1.blk k1.lo k1.dsk k1.dlen hu k1.xp k1.xw k1.top (by omega) hn hz (LinesAt.nil w1) (by simp) (by simp))
  have K1 := hI k1
  have K2 := hI k2
  clear k1 k2 Hc
  go_wp2_with fail
  refine HL.u.mono ?_
  rintro e w2 ⟨rfl, ⟨vw2, j1, j2, j4⟩, j3⟩
  have HF : Hid (LedWx X w2 B p (u + 1) (ws ++ [((u : Int), secB 1 a 0 []), (-1, ⟨#[]⟩)]) s' ∧ FrX X B tP w w2) := ⟨⟨_, _, _, _, K1.u.laidX hlt j1 j2 j3 j4⟩, K2.u.trans (j3.mono (by simp [tP]))⟩
  clear j1 j2 j3 j4 HL K1 K2
  go_wp2_with fail
  go_ret2
  exact ⟨rfl, HF.u.1, HF.u.2⟩
 ·have hd : decide (y = 0) = false := by simpa using hy
  have hye : (y == 0) = false := by simpa using hy
  rw [hd]
  go_enter Tryz.func66, Tryz.ntmps66
  go_wp2_with fail
  refine Hc.u.mono ?_
  rintro e w1 ⟨rfl, ⟨va1, vt1, tv1, k1⟩, k2⟩
  have K1 := hI k1
  have K2 := hI k2
  clear k1 k2 Hc
  go_wp2_with fail
  go_ret2
  exact ⟨rfl, ⟨_, _, _, _, K1.u⟩, K2.u⟩
theorem dayCloseX_any (X : Nat → Prop) (B p u : Nat) (ws : List Wr) (s : Bk) (a : Int) (w : World) (h : LedWx X w B p u ws s) :
  Calls Tryz.prog 67 #[.pointer (some ⟨p, 0, none⟩), .int .i64 a] w fun e w' => e = .returned (.int .i64 (cls s a).1) ∧ LedWx X w' B p (dkU (decide ((cls s a).1 = 0)) u) (dkW (decide ((cls s a).1 = 0)) u (secB 2 a 0 []) ws) (cls s a).2 ∧ FrX X B tP w w' := by
 obtain ⟨va, vt, tv, vw, h⟩ := h
 have hg := h.good
 have hcn := h.dcnt
 have hbd := cnt_bound hg
 simp only at hcn
 have Hc := hI (ledCloseX_any X B p ⟨u, vw, ws⟩ s a w ⟨va, vt, tv, h⟩)
 have hor := cls_cnt hg a
 obtain ⟨⟨y, s'⟩, hr⟩ : ∃ r, cls s a = r := ⟨_, rfl⟩
 rw [hr] at Hc hor ⊢
 simp only at Hc hor ⊢
 clear h hr hg
 rcases hor with ⟨rfl, h0, h1, h2⟩ | ⟨hy, rfl⟩
 ·simp only [decide_true]
  have hn : AmtOk a := ⟨by omega, by omega⟩
  have hz : AmtOk 0 := ⟨by omega, by omega⟩
  have hlt : u < cnt s' := by omega
  have hu : u ≤ 95 := by omega
  go_enter Tryz.func67, Tryz.ntmps67
  go_wp2_with fail
  refine Hc.u.mono ?_
  rintro e w1 ⟨rfl, ⟨va1, vt1, tv1, k1⟩, k2⟩
  have HL := hI (layX_any X B p u va1 vt1 vw ws 2 a 0 _ [] w1 k1.blk k1.lo k1.dsk k1.dlen hu k1.xp k1.xw k1.top (by omega) hn hz (LinesAt.nil w1) (by simp) (by simp))
  have K1 := hI k1
  have K2 := hI k2
  clear k1 k2 Hc
  go_wp2_with fail
  refine HL.u.mono ?_
  rintro e w2 ⟨rfl, ⟨vw2, j1, j2, j4⟩, j3⟩
  have HF : Hid (LedWx X w2 B p (u + 1) (ws ++ [((u : Int), secB 2 a 0 []), (-1, ⟨#[]⟩)]) s' ∧ FrX X B tP w w2) := ⟨⟨_, _, _, _, K1.u.laidX hlt j1 j2 j3 j4⟩, K2.u.trans (j3.mono (by simp [tP]))⟩
  clear j1 j2 j3 j4 HL K1 K2
  go_wp2_with fail
  go_ret
  exact ⟨rfl, HF.u.1, HF.u.2⟩
 ·have hd : decide (y = 0) = false := by simpa using hy
  have hye : (y == 0) = false := by simpa using hy
  rw [hd]
  go_enter Tryz.func67, Tryz.ntmps67
  go_wp2_with fail
  refine Hc.u.mono ?_
  rintro e w1 ⟨rfl, ⟨va1, vt1, tv1, k1⟩, k2⟩
  have K1 := hI k1
  have K2 := hI k2
  clear k1 k2 Hc
  go_wp2_with fail
  go_ret
  exact ⟨rfl, ⟨_, _, _, _, K1.u⟩, K2.u⟩
theorem run_copy2 {P : Program} (w : World) (dT sT ty elem : TypeId) (g o dLen dCap : Nat) (a : Addr) (sLen sCap : Nat) (cur : Array Value) (t : TypeId) (cs : List Value)
  (hu : P.underlying dT = some (.slice elem)) (hs : (P.info? elem).map (·.size) = some 2)
  (hg : w.heap[g]? = some (.cells cur t (0, 0))) (hn : cs.length = Nat.min sLen dLen * 2)
  (hsrc : ∀ j v, cs[j]? = some v → w.cell? (a.add j) = some v) (hfit : o + cs.length ≤ cur.size) (h1 : ∀ v ∈ cs, v.oneCell' = true) :
  (Builtin.copy_ #[dT, sT] ty #[.slice (some ⟨g, o, none⟩) dLen dCap, .slice (some a) sLen sCap]).run P w =
   .ok (goInt (Nat.min sLen dLen)) (w.setRow g (cur.toList.take o ++ cs ++ cur.toList.drop (o + cs.length)).toArray) := by
 have hl := run_loadCells_list (P := P) w a cs hsrc
 have hst := run_storeCells_at P g o t cs 0 cur w hg (by simpa using hfit) h1
 cases hq : P.info? elem with
 | none => simp [hq] at hs
 | some i =>
  have hi : i.size = 2 := by simpa [hq] using hs
  simp [Builtin.copy_, run_underlying hu, Builtin.lenOf, Builtin.firstCells, sizeOf, typeInfo, hq, hi, ← hn, hl, hst]
theorem run_copy2_none {P : Program} (w : World) (dT sT ty elem : TypeId) (d a : Option Addr) (dLen dCap sLen sCap : Nat) (hu : P.underlying dT = some (.slice elem)) (hs : (P.info? elem).map (·.size) = some 2) (hn : Nat.min sLen dLen = 0) :
  (Builtin.copy_ #[dT, sT] ty #[.slice d dLen dCap, .slice a sLen sCap]).run P w = .ok (goInt 0) w := by
 cases hq : P.info? elem with
 | none => simp [hq] at hs
 | some i =>
  have hl : ∀ (x : Addr), (loadCells x 0).run P w = .ok #[] w := fun x => by simpa using run_loadCells_list (P := P) w x [] (by simp)
  cases d <;> cases a <;> simp [Builtin.copy_, run_underlying hu, Builtin.lenOf, Builtin.firstCells, sizeOf, typeInfo, hq, hn, storeCells, hl]
theorem wpList_copy2 {P : Program} {w : World} {ops : Array Oper} {rest : List Oper} {o : Oper} {a : Act} {Q : Exit → Act → World → Prop} (hgd : o.guard = none) (d s : Operand) (dT sT : TypeId)
  (ho : o.op = .call { callee := .builtin .copy, args := #[d, s], argTypes := #[dT, sT] }) (elem : TypeId) (hu : P.underlying dT = some (.slice elem)) (hsz : (P.info? elem).map (·.size) = some 2)
  (g dLen dCap : Nat) (ad : Option Addr) (sLen sCap : Nat) (hd : a.eval d = .slice (some ⟨g, 0, none⟩) dLen dCap) (hs : a.eval s = .slice ad sLen sCap)
  (cur : Array Value) (t : TypeId) (hg : w.heap[g]? = some (.cells cur t (0, 0))) (cs : List Value) (hn : cs.length = sLen * 2) (hle : sLen ≤ dLen)
  (hsrc : sLen = 0 ∨ ∃ ad', ad = some ad' ∧ ∀ j v, cs[j]? = some v → w.cell? (ad'.add j) = some v) (hfit : cs.length ≤ cur.size) (h1 : ∀ v ∈ cs, v.oneCell' = true)
  (h : ∀ w', w'.heap[g]? = some (.cells (cs ++ cur.toList.drop cs.length).toArray t (0, 0)) → (∀ k, k ≠ g → w'.heap[k]? = w.heap[k]?) → w'.heap.size = w.heap.size → w'.os = w.os → w'.tape = w.tape → w'.output = w.output → wpList P ops Q rest (a.put o.dst (goInt sLen)) w') : wpList P ops Q (o :: rest) a w := by
 refine wpList_plain hgd fun K hK => ?_
 have hmin : Nat.min sLen dLen = sLen := Nat.min_eq_left hle
 rcases hsrc with h0 | ⟨ad', rfl, hsrc⟩
 ·subst h0
  obtain rfl : cs = [] := List.length_eq_zero_iff.1 (by omega)
  have hrun := run_copy2_none (P := P) w dT sT o.type elem (some ⟨g, 0, none⟩) ad dLen dCap 0 sCap hu hsz hmin
  unfold Oper.wp
  simp [execOp, ho, resolve, invoke, builtin, hd, hs, hrun, Result.andThen]
  exact hK _ _ (h w (by simpa using hg) (fun _ _ => rfl) rfl rfl rfl rfl)
 ·have hrun := run_copy2 (P := P) w dT sT o.type elem g 0 dLen dCap ad' sLen sCap cur t cs hu hsz hg (by rw [hmin]; exact hn) hsrc (by omega) h1
  rw [hmin] at hrun
  unfold Oper.wp
  simp [execOp, ho, resolve, invoke, builtin, hd, hs, hrun, Result.andThen]
  refine hK _ _ (h _ ?_ (fun k hk => setRow_other w g k _ hk) (by simp [World.setRow]) rfl rfl rfl)
  rw [setRow_heap w g cur _ t _ hg]
theorem run_make2 (n : Nat) (h : n ≤ 17592186044416) (w : World) :
  (Instr.makeSlice 31 (.int .i64 (n : Int)) (.int .i64 (n : Int))).run Tryz.prog w = .ok (.slice (some ⟨w.heap.size, 0, none⟩) n n) (w.alloc (.cells (madeCells #[.int .i64 0, .int .i64 0] (n * 2)) 89)) := by
 obtain ⟨ii, hi, hz0, hz1, hz2⟩ := info_parts info_line
 have := run_make (P := Tryz.prog) w 31 89 ii (.agg #[.int .i64 0, .int .i64 0]) Tryz.underlying31 hi hz0 .i64 .i64 n n (by omega) (Int.le_refl _) (by rw [hz2]; omega) (by omega)
 rw [hz1, show (Value.agg #[.int .i64 0, .int .i64 0]).cells = #[.int .i64 0, .int .i64 0] from rfl] at this
 simpa using this
def sameB (a b : List Ln) : Bool := decide (a = b)
theorem alike_any (ls ls' : List Ln) (v v' : Value) (w : World) (h : LinesAt w v ls) (h' : LinesAt w v' ls') (h4 : ls.length ≤ 4) :
   Calls Tryz.prog 74 #[v, v'] w fun e w' => e = .returned (.bool (sameB ls ls')) ∧ ∃ n, w' = w.drewN n := by
 obtain ⟨ao, cap, rfl⟩ := h.form
 obtain ⟨ao', cap', rfl⟩ := h'.form
 have H := hI h
 have H' := hI h'
 clear h h'
 by_cases hlen : ls.length = ls'.length
 · have he : ((ls.length : Int) != (ls'.length : Int)) = false := by simp; omega
   have Hlen := hI hlen
   have h4' : ls'.length ≤ 4 := by omega
   clear hlen
   go_enter Tryz.func74, Tryz.ntmps74
   go_wp2_with fail
   go_loopg [5] ls.length (fun m i wr => ∃ j n : Nat, j ≤ ls.length ∧ m = ls.length - j ∧ i = .int .i64 j ∧ Hid (ls.take j = ls'.take j) ∧ wr = w.drewN n)
   case atStart => exact ⟨0, 0, by omega, rfl, rfl, rfl, rfl⟩
   case round =>
     obtain ⟨j, n, hj, rfl, rfl, Ho, rfl⟩ := hrel
     by_cases hlt : j < ls.length
     · obtain ⟨⟨la, lm⟩, hl⟩ : ∃ l, ls[j]? = some l := ⟨ls[j], List.getElem?_eq_getElem hlt⟩
       obtain ⟨⟨ra, rm⟩, hr⟩ : ∃ l, ls'[j]? = some l := ⟨ls'[j]'(by rw [← Hlen.u]; exact hlt), List.getElem?_eq_getElem _⟩
       obtain ⟨_, b, off, rfl, hbl, d1, d2⟩ := H.u.line hl
       obtain ⟨_, b', off', rfl, hbl', f1, f2⟩ := H'.u.line hr
       have hlt' : j < ls'.length := by have := Hlen.u; omega
       have Hl := hI hl
       have Hr := hI hr
       simp only at d1 d2 f1 f2
       clear hl hr
       by_cases hsame : la = ra ∧ lm = rm
       · obtain ⟨rfl, rfl⟩ := hsame
         go_upto_region 6 with fail
         go_quiet (fail)
         go_wp2_with fail
         go_roundg (ls.length - (j + 1))
         case measure => omega
         case rel => exact ⟨j + 1, _, by omega, rfl, by go_num, take_more Ho.u Hl.u Hr.u, by first | rfl | exact (World.drewN_drewN _ _ _)⟩
       · have Hno : Hid (false = sameB ls ls') := by
           show _ = _
           unfold sameB
           rw [eq_comm, decide_eq_false_iff_not]
           intro e
           have h1 := Hl.u
           have h2 := Hr.u
           rw [e, h2] at h1
           simp only [Option.some.injEq, Prod.mk.injEq] at h1
           exact hsame ⟨h1.1.symm, h1.2.symm⟩
         by_cases hra : la = ra
         · subst hra
           have hrm : (lm == rm) = false := by simpa using hsame
           have hrm2 : ¬ lm = rm := by simpa using hrm
           clear hsame
           go_upto_region 6 with fail
           go_quiet (fail)
           go_wp2_with fail
           go_ret
           exact ⟨retB' Hno.u, _, by first | rfl | exact (World.drewN_drewN _ _ _)⟩
         · have hrm : (la == ra) = false := by simpa using hra
           clear hsame
           go_upto_region 6 with fail
           go_quiet (fail)
           go_wp2_with fail
           go_ret
           exact ⟨retB' Hno.u, _, by first | rfl | exact (World.drewN_drewN _ _ _)⟩
     · obtain rfl : j = ls.length := by omega
       go_wp2_with fail
       go_ret
       refine ⟨retB' ?_, n, rfl⟩
       have h1 := Ho.u
       rw [List.take_length, Hlen.u, List.take_length] at h1
       unfold sameB
       simp [h1]
 · have he : ((ls.length : Int) != (ls'.length : Int)) = true := by simp; omega
   go_enter Tryz.func74, Tryz.ntmps74
   go_wp2_with fail
   go_ret
   refine ⟨retB' ?_, 0, rfl⟩
   unfold sameB
   rw [eq_comm, decide_eq_false_iff_not]
   intro e
   exact hlen (by rw [e])
theorem refAmounts_any (v : Value) (ls : List Ln) (w : World) (h : LinesAt w v ls) (h4 : ls.length ≤ 4) :
  Calls Tryz.prog 75 #[v] w fun e w' => e = .returned (.bool (!ls.any amtB)) ∧ w' = w := by
 obtain ⟨ao, cap, rfl⟩ := h.form
 have H := hI h
 clear h
 go_enter Tryz.func75, Tryz.ntmps75
 go_wp2_with fail
 go_loopg [3] ls.length (fun m i wr => ∃ j : Nat, j ≤ ls.length ∧ m = ls.length - j ∧ i = .int .i64 j ∧ Hid ((ls.drop j).any amtB = ls.any amtB) ∧ wr = w)
 case atStart => exact ⟨0, by omega, rfl, rfl, rfl, rfl⟩
 case round =>
  obtain ⟨j, hj, rfl, rfl, Ho, rfl⟩ := hrel
  by_cases hlt : j < ls.length
  ·obtain ⟨⟨la, lm⟩, hl⟩ : ∃ l, ls[j]? = some l := ⟨ls[j], List.getElem?_eq_getElem hlt⟩
   obtain ⟨_, b, off, rfl, hbl, d1, d2⟩ := H.u.line hl
   have Hst := hI (any_step (f := amtB) hl)
   simp only at d1 d2 Hst
   clear hl
   by_cases h0 : lm = 0
   ·subst h0
    go_wp2_with fail
    go_ret
    exact ⟨retB' (by rw [← Ho.u, Hst.u]; simp [amtB]), rfl⟩
   ·have hne : (lm == 0) = false := by simpa using h0
    by_cases h1 : lm < -1000000000000
    ·go_wp2_with fail
     go_ret
     exact ⟨retB' (by rw [← Ho.u, Hst.u]; simp [amtB, h1]), rfl⟩
    ·by_cases h2 : 1000000000000 < lm
     ·go_wp2_with fail
      go_ret
      exact ⟨retB' (by rw [← Ho.u, Hst.u]; simp [amtB, h2]), rfl⟩
     ·have hst2 : amtB (la, lm) = false := by unfold amtB; simp [hne]; omega
      go_wp2_with fail
      go_roundg (ls.length - (j + 1))
      case measure => omega
      case rel => exact ⟨j + 1, by omega, rfl, by go_num, by show _ = _; rw [← Ho.u, Hst.u, hst2]; simp, rfl⟩
  ·obtain rfl : j = ls.length := by omega
   go_wp2_with fail
   go_ret
   exact ⟨retB' (by rw [← Ho.u, List.drop_length]; rfl), rfl⟩
def oldE (txs : List Tn) (id day : Int) (ls : List Ln) : Int × Bool := match findT id txs with | some t => (repE t.2.1 day t.2.2 ls, true) | none => (0, false)
theorem oldE_some {txs : List Tn} {id day : Int} {ls : List Ln} {t : Tn} (h : findT id txs = some t) : oldE txs id day ls = (repE t.2.1 day t.2.2 ls, true) := by unfold oldE; rw [h]
theorem oldE_none {txs : List Tn} {id day : Int} {ls : List Ln} (h : findT id txs = none) : oldE txs id day ls = (0, false) := by unfold oldE; rw [h]
theorem sameB_rep {td day : Int} {ls ls' : List Ln} : repE td day ls ls' = if sameB ls ls' && (td == day) then 0 else 13 := by
 unfold repE sameB
 by_cases h1 : td = day <;> by_cases h2 : ls = ls' <;> simp [h1, h2]
theorem old_any (B p : Nat) (s : Bk) (id day : Int) (v : Value) (ls : List Ln) (w : World) (h : Rfd w B p s) (hl : LinesAt w v ls) :
  Calls Tryz.prog 43 #[.pointer (some ⟨p, 0, none⟩), .int .i64 id, .int .i64 day, v] w fun e w' => e = .returned (.tuple #[.int .i64 (oldE s.txs id day ls).1, .bool (oldE s.txs id day ls).2]) ∧ Below w.heap.size w w' := by
 obtain ⟨vp, vc, vt, tv, h⟩ := h
 obtain ⟨aol0, capl0, rfl⟩ := hl.form
 obtain ⟨ao, cap, rfl⟩ := oForm h.txs.own
 have hlen : tv.length ≤ 64 := by have := h.good.posts; rw [← h.jr, List.length_map] at this; exact this
 have Hjr := hI h.jr
 have H := hI h
 have HL := hI hl
 obtain ⟨⟨rx, rb⟩, hr⟩ : ∃ r, oldE s.txs id day ls = r := ⟨_, rfl⟩
 rw [hr]
 have Hr := hI hr
 clear h hl hr
 simp only
 go_enter Tryz.func43, Tryz.ntmps43
 go_wp2_with fail
 go_loopg [10] tv.length (fun m i wr => ∃ j : Nat, j ≤ tv.length ∧ m = tv.length - j ∧ i = .int .i64 j ∧ Hid (findT id (s.txs.drop j) = findT id s.txs) ∧ Hid (Below w.heap.size w wr))
 case atStart => exact ⟨0, by omega, rfl, rfl, rfl, Below.refl _ _⟩
 case round =>
  obtain ⟨j, hj, rfl, rfl, Ho, Hb⟩ := hrel
  have hsz := Hb.u.size
  have H1 := hI (H.u.kept Hb.u)
  have c2 := H1.u.blk.cell 2
  have hlb := H1.u.blk.lt
  simp only [List.getElem?_toArray, List.getElem?_cons_zero, List.getElem?_cons_succ] at c2
  by_cases hlt : j < tv.length
  ·obtain ⟨⟨t, v⟩, ht⟩ : ∃ t, tv[j]? = some t := ⟨tv[j], List.getElem?_eq_getElem hlt⟩
   obtain ⟨g, _, e1, hg, hg'⟩ := oSome H1.u.txs.own (by omega)
   simp only [Value.slice.injEq, true_and] at e1
   obtain ⟨rfl, rfl⟩ := e1
   have h3 := three_get (fun x : Tn × Value => Value.int .i64 x.1.1) (fun x => .int .i64 x.1.2.1) (fun x => x.2) tv j (t, v) ht
   have d0 := oCell H1.u.txs.own (j := j * 3) h3.1
   have d1 := oCell H1.u.txs.own (j := j * 3 + 1) h3.2.1
   have d2 := oCell H1.u.txs.own (j := j * 3 + 2) h3.2.2
   have hln := H1.u.txs.lns _ (List.mem_of_getElem? ht)
   have hst : s.txs[j]? = some t := by rw [← Hjr.u, List.getElem?_map, ht]; rfl
   have h4 := (H.u.good.tx t (List.mem_of_getElem? hst)).2.2.2.2.1
   have Hst := hI (findT_step (id := id) hst)
   obtain ⟨ti, td, tl⟩ := t
   simp only at d0 d1 d2 hln Hst h4
   obtain ⟨aol, capl, rfl⟩ := oForm hln
   have Hln := hI hln
   clear h3 hln hst ht
   by_cases hid : ti = id
   ·subst hid
    have Hrr : Hid (rx = repE td day tl ls ∧ rb = true) := by
     have h1 := Hr.u.symm.trans (oldE_some (t := (ti, td, tl)) (by rw [← Ho.u, Hst.u]; simp))
     exact (by simpa using h1 : rx = repE td day tl ls ∧ rb = true)
    obtain ⟨hrx, rfl⟩ := Hrr.u
    rw [sameB_rep] at hrx
    have Hrx := hI hrx
    clear hrx Hrr
    go_wp2_with fail
    refine (alike_any tl ls _ _ _ (by exact (LinesAt.of_own Hln.u).kept ((Below.refl _ _).alloc (Nat.le_refl _) _)) (by exact HL.u.kept (Hb.u.alloc hsz _)) h4).mono ?_
    rintro e w2 ⟨rfl, n, rfl⟩
    have HbF : Hid (Below w.heap.size w ((wr.alloc (Obj.cells #[Value.int IntKind.i64 ti, Value.int IntKind.i64 td, Value.slice aol tl.length capl] 87)).drewN n)) := (Hb.u.alloc hsz _).drewN _
    cases hsb : sameB tl ls with
    | false =>
     have hx : rx = 13 := by rw [Hrx.u, hsb]; simp
     subst hx
     clear hsb
     go_wp2_with fail
     go_ret2
     exact ⟨rfl, HbF.u⟩
    | true =>
     by_cases htd : td = day
     ·subst htd
      have hx : rx = 0 := by rw [Hrx.u, hsb]; simp
      subst hx
      clear hsb
      go_wp2_with fail
      go_ret2
      exact ⟨rfl, HbF.u⟩
     ·have hne : (td == day) = false := by simpa using htd
      have hx : rx = 13 := by rw [Hrx.u, hsb, hne]; simp
      subst hx
      clear hsb
      go_wp2_with fail
      go_ret2
      exact ⟨rfl, HbF.u⟩
   ·have hne : (ti == id) = false := by simpa using hid
    go_wp2_with fail
    go_roundg (tv.length - (j + 1))
    case measure => omega
    case rel => exact ⟨j + 1, by omega, rfl, by go_num, by show _ = _; rw [← Ho.u, Hst.u, hne]; simp, Hb.u.alloc hsz _⟩
  ·obtain rfl : j = tv.length := by omega
   have hrr : (rx, rb) = (0, false) := Hr.u.symm.trans (oldE_none (by rw [← Ho.u, List.drop_of_length_le (by rw [← Hjr.u, List.length_map]; exact Nat.le_refl _)]; rfl))
   simp only [Prod.mk.injEq] at hrr
   obtain ⟨rfl, rfl⟩ := hrr
   go_wp2_with fail
   go_ret2
   exact ⟨rfl, Hb.u⟩
def refE (s : Bk) (day : Int) (ls : List Ln) : Int := if day < 0 ∨ 999 < day then 14 else if ¬ lnsE s ls = 0 then lnsE s ls else if 64 ≤ s.txs.length then 11 else 0
theorem refE_14 {s : Bk} {day : Int} {ls : List Ln} (h : day < 0 ∨ 999 < day) : refE s day ls = 14 := if_pos h
theorem refE_l {s : Bk} {day : Int} {ls : List Ln} {x : Int} (h : ¬ (day < 0 ∨ 999 < day)) (hl : lnsE s ls = x) (hx : ¬ x = 0) : refE s day ls = x := by unfold refE; rw [if_neg h, hl, if_pos hx]
theorem refE_11 {s : Bk} {day : Int} {ls : List Ln} (h : ¬ (day < 0 ∨ 999 < day)) (hl : lnsE s ls = 0) (h64 : 64 ≤ s.txs.length) : refE s day ls = 11 := by unfold refE; rw [if_neg h, if_neg (by simp [hl]), if_pos h64]
theorem refE_0 {s : Bk} {day : Int} {ls : List Ln} (h : ¬ (day < 0 ∨ 999 < day)) (hl : lnsE s ls = 0) (h64 : ¬ 64 ≤ s.txs.length) : refE s day ls = 0 := by unfold refE; rw [if_neg h, if_neg (by simp [hl]), if_neg h64]
theorem refused_any (B p : Nat) (s : Bk) (day : Int) (v : Value) (ls : List Ln) (w : World) (h : Rfd w B p s) (hl : LinesAt w v ls) :
  Calls Tryz.prog 44 #[.pointer (some ⟨p, 0, none⟩), .int .i64 day, v] w fun e w' => e = .returned (.int .i64 (refE s day ls)) ∧ ∃ n, w' = w.drewN n := by
 have Hthere := hI (fun (a : Int) (n : Nat) (h : Rfd (w.drewN n) B p s) => there_any B p s a (w.drewN n) h)
 obtain ⟨vp, vc, vt, tv, h⟩ := h
 obtain ⟨ao, cap, rfl⟩ := hl.form
 obtain ⟨g2, cap2, rfl, hg2, hg2'⟩ := oSome h.clo h.good.one
 obtain ⟨aot, capt, rfl⟩ := oForm h.txs.own
 have c1 := h.blk.cell 1
 have c2 := h.blk.cell 2
 have hlp := h.blk.lt
 simp only [List.getElem?_toArray, List.getElem?_cons_zero, List.getElem?_cons_succ] at c1 c2
 have hfew := h.good.few
 have H := hI h
 have HL := hI hl
 have HRf : Hid (∀ n, Rfd (w.drewN n) B p s) := fun n => ⟨_, _, _, _, H.u.kept ((Below.refl _ w).drewN n)⟩
 obtain ⟨r, hr⟩ : ∃ r, refE s day ls = r := ⟨_, rfl⟩
 rw [hr]
 have Hr := hI hr
 clear h hl hr
 by_cases hd : day < 0 ∨ 999 < day
 ·obtain rfl : r = 14 := Hr.u.symm.trans (refE_14 hd)
  have h2 : (2 : Int) ≤ ls.length ∨ (ls.length : Int) < 2 := by omega
  by_cases hneg : day < 0
  ·rcases h2 with h2 | h2
   ·go_enter Tryz.func44, Tryz.ntmps44
    go_wp2_with fail
    go_ret
    exact ⟨rfl, 0, rfl⟩
   ·go_enter Tryz.func44, Tryz.ntmps44
    go_wp2_with fail
    go_ret
    exact ⟨rfl, 0, rfl⟩
  ·have hgt : 999 < day := by omega
   rcases h2 with h2 | h2
   ·go_enter Tryz.func44, Tryz.ntmps44
    go_wp2_with fail
    go_ret
    exact ⟨rfl, 0, rfl⟩
   ·go_enter Tryz.func44, Tryz.ntmps44
    go_wp2_with fail
    go_ret
    exact ⟨rfl, 0, rfl⟩
 have hd0 : ¬ day < 0 := by omega
 have hd9 : ¬ 999 < day := by omega
 by_cases hlen : ls.length < 2 ∨ 4 < ls.length
 ·obtain rfl : r = 15 := Hr.u.symm.trans (refE_l hd (lnsE_15 hlen) (by simp))
  by_cases h2 : ls.length < 2
  ·have h2' : (ls.length : Int) < 2 := by omega
   go_enter Tryz.func44, Tryz.ntmps44
   go_wp2_with fail
   go_ret
   exact ⟨rfl, 0, rfl⟩
  ·have h2' : (2 : Int) ≤ (ls.length : Int) := by omega
   have h4' : decide ((ls.length : Int) ≤ 4) = false := by simp; omega
   go_enter Tryz.func44, Tryz.ntmps44
   go_wp2_with fail
   go_ret
   exact ⟨rfl, 0, rfl⟩
 have h2' : (2 : Int) ≤ (ls.length : Int) := by omega
 have h4' : (ls.length : Int) ≤ 4 := by omega
 have h4 : ls.length ≤ 4 := by omega
 have Hm := hI (refAmounts_any _ ls w HL.u h4)
 cases ham : ls.any amtB with
 | true =>
  obtain rfl : r = 16 := Hr.u.symm.trans (refE_l hd (lnsE_16 hlen ham) (by simp))
  rw [ham] at Hm
  clear ham
  go_enter Tryz.func44, Tryz.ntmps44
  go_wp2_with fail
  refine Hm.u.mono ?_
  rintro e w1 ⟨rfl, rfl⟩
  go_wp2_with fail
  go_ret
  exact ⟨rfl, 0, rfl⟩
 | false =>
  rw [ham] at Hm
  have Ham := hI ham
  have Hab := hI (amt_ok ham)
  have Hlen := hI hlen
  clear ham hlen
  go_enter Tryz.func44, Tryz.ntmps44
  go_wp2_with fail
  refine Hm.u.mono ?_
  rintro e w1 ⟨rfl, rfl⟩
  go_wp2_with fail
  go_loopg [9, 10] ls.length (fun m vn i wr => ∃ j : Nat, ∃ x : Int, j ≤ ls.length ∧ m = ls.length - j ∧ i = .int .i64 j ∧ vn = .int .i64 x ∧ -(1000000000000 * (j : Int)) ≤ x ∧ x ≤ 1000000000000 * (j : Int) ∧ Hid (x + sumL (ls.drop j) = sumL ls) ∧ Hid ((ls.drop j).all (accB s) = ls.all (accB s)) ∧ wr = w1)
  case atStart => exact ⟨0, 0, by omega, rfl, rfl, rfl, by omega, by omega, by show _ = _; simp, rfl, rfl⟩
  case round =>
   obtain ⟨j, x, hj, rfl, rfl, rfl, hx0, hx1, Ho, Hac, hW⟩ := hrel
   subst hW
   by_cases hlt : j < ls.length
   ·obtain ⟨⟨la, lm⟩, hlj⟩ : ∃ l, ls[j]? = some l := ⟨ls[j], List.getElem?_eq_getElem hlt⟩
    obtain ⟨_, b, off, rfl, hbl, d1, d2⟩ := HL.u.line hlj
    have Hst := hI (sumL_step hlj)
    have Hst2 := hI (all_step (f := accB s) hlj)
    have hb := Hab.u _ (List.mem_of_getElem? hlj)
    have Hth := hI (Hthere.u la 0 (HRf.u 0))
    simp only at d1 d2 Hst hb Hst2
    clear hlj
    go_wp2_with fail
    refine Hth.u.mono ?_
    rintro e w2 ⟨rfl, rfl⟩
    cases hth : ther s la with
    | false =>
     obtain rfl : r = 7 := Hr.u.symm.trans (refE_l hd (lnsE_7 Hlen.u Ham.u (by rw [← Hac.u, Hst2.u]; unfold accB; simp [hth])) (by simp))
     clear hth
     go_wp2_with fail
     go_ret
     exact ⟨rfl, 0, rfl⟩
    | true =>
     by_cases hl0 : la = 0
     ·subst hl0
      obtain rfl : r = 7 := Hr.u.symm.trans (refE_l hd (lnsE_7 Hlen.u Ham.u (by rw [← Hac.u, Hst2.u]; unfold accB; simp)) (by simp))
      clear hth
      go_wp2_with fail
      go_ret
      exact ⟨rfl, 0, rfl⟩
     ·have hne : (la == 0) = false := by simpa using hl0
      have hacc : accB s (la, lm) = true := by unfold accB; simp [hth, hne]
      have hwr : IntKind.i64.wrap (x + lm) = x + lm := by rw [IntKind.wrap_i64]; omega
      have Hac2 : Hid ((ls.drop (j + 1)).all (accB s) = ls.all (accB s)) := by show _ = _; rw [← Hac.u, Hst2.u, hacc]; simp
      clear hth hacc
      go_wp2_with fail
      go_roundg (ls.length - (j + 1))
      case measure => omega
      case rel => exact ⟨j + 1, x + lm, by omega, rfl, by go_num, rfl, by omega, by omega, by show _ = _; have := Ho.u; rw [Hst.u] at this; omega, Hac2.u, rfl⟩
   ·obtain rfl : j = ls.length := by omega
    have hxs : x = sumL ls := by have := Ho.u; rw [List.drop_length] at this; simpa [sumL] using this
    have Hxs := hI hxs
    have Hall : Hid (ls.all (accB s) = true) := by show _ = _; rw [← Hac.u, List.drop_length]; rfl
    clear hxs Ho Hac
    obtain ⟨W0, hW0⟩ : ∃ W0, W0 = wr := ⟨_, rfl⟩
    subst hW0
    go_wp2_with fail
    go_loopg [12] ls.length (fun m i wx => ∃ j n : Nat, j ≤ ls.length ∧ m = ls.length - j ∧ i = .int .i64 j ∧ Hid (((ls.drop j).any fun l => clsd s l.1) = ls.any fun l => clsd s l.1) ∧ wx = W0.drewN n)
    case atStart => exact ⟨0, 0, by omega, rfl, rfl, rfl, rfl⟩
    case round =>
     obtain ⟨j, n, hj, rfl, rfl, Hc, hW⟩ := hrel
     subst hW
     by_cases hlt : j < ls.length
     ·obtain ⟨⟨la, lm⟩, hlj⟩ : ∃ l, ls[j]? = some l := ⟨ls[j], List.getElem?_eq_getElem hlt⟩
      obtain ⟨_, b, off, rfl, hbl, d1, d2⟩ := HL.u.line hlj
      have Hst := hI (any_step (f := fun l : Ln => clsd s l.1) hlj)
      have hla := List.all_eq_true.1 Hall.u _ (List.mem_of_getElem? hlj)
      unfold accB ther at hla
      simp only [Bool.and_eq_true, decide_eq_true_eq] at hla
      obtain ⟨k, rfl⟩ : ∃ k : Nat, la = k := ⟨la.toNat, by omega⟩
      have hk : k < s.acs.length := by omega
      obtain ⟨c, hc⟩ := acs_get hk
      have d3 := oCell H.u.clo (j := k) (u := .bool c.2) (by rw [List.getElem?_map, hc]; rfl)
      have hcl := clsd_at hc
      simp only at d1 d2 Hst
      rw [hcl] at Hst
      clear hlj hla hc hcl
      cases hcc : c.2 with
      | true =>
       rw [hcc] at d3 Hst
       obtain rfl : r = 8 := Hr.u.symm.trans (refE_l hd (lnsE_8 Hlen.u Ham.u Hall.u (by rw [← Hc.u, Hst.u]; simp)) (by simp))
       go_upto_region 20 with fail
       go_quiet (fail)
       go_wp2_with fail
       go_ret
       exact ⟨rfl, _, by first | rfl | exact (World.drewN_drewN _ _ _)⟩
      | false =>
       rw [hcc] at d3 Hst
       go_upto_region 20 with fail
       go_quiet (fail)
       go_wp2_with fail
       go_roundg (ls.length - (j + 1))
       case measure => omega
       case rel => exact ⟨j + 1, _, by omega, rfl, by go_num, by show _ = _; rw [← Hc.u, Hst.u]; simp, by first | rfl | exact (World.drewN_drewN _ _ _)⟩
     ·obtain rfl : j = ls.length := by omega
      have Hncl : Hid ((ls.any fun l => clsd s l.1) = false) := by show _ = _; rw [← Hc.u, List.drop_length]; rfl
      have hjl : tv.length = s.txs.length := by rw [← H.u.jr, List.length_map]
      have hgp := H.u.good.posts
      by_cases hx : x = 0
      ·subst hx
       have hle := lnsE_0 Hlen.u Ham.u Hall.u Hncl.u Hxs.u.symm
       by_cases h64 : 64 ≤ s.txs.length
       ·obtain rfl : r = 11 := Hr.u.symm.trans (refE_11 hd hle h64)
        have he : ((tv.length : Int) == 64) = true := by simp; omega
        clear hle hjl hgp h64
        go_wp2_with fail
        go_ret
        exact ⟨rfl, n, rfl⟩
       ·obtain rfl : r = 0 := Hr.u.symm.trans (refE_0 hd hle h64)
        have he : ((tv.length : Int) == 64) = false := by simp; omega
        clear hle hjl hgp h64
        go_wp2_with fail
        go_ret
        exact ⟨rfl, n, rfl⟩
      ·obtain rfl : r = 17 := Hr.u.symm.trans (refE_l hd (lnsE_17 Hlen.u Ham.u Hall.u Hncl.u (by rw [← Hxs.u]; exact hx)) (by simp))
       have hxe : (x == 0) = false := by simpa using hx
       clear hjl hgp
       go_wp2_with fail
       go_ret
       exact ⟨rfl, n, rfl⟩
theorem map_shut {l : List Ac} {k : Nat} {c : Ac} (h : l[k]? = some c) : ((l.set k (c.1, true)).map fun a => Value.int .i64 a.1) = l.map fun a => Value.int .i64 a.1 := by
 rw [List.map_set]
 apply List.ext_getElem?
 intro i
 rw [List.getElem?_set]
 by_cases hi : k = i
 ·subst hi
  rw [if_pos rfl]
  have hl := (List.getElem?_eq_some_iff.1 h).1
  rw [if_pos (by simpa using hl), List.getElem?_map, h]; rfl
 ·rw [if_neg hi]
theorem RefAt.shut {w : World} {B p g cap k : Nat} {vp vt : Value} {tv : List (Tn × Value)} {s : Bk} {c : Ac} (h : RefAt w B p vp (.slice (some ⟨g, 0, none⟩) s.acs.length cap) vt tv s) (hc : s.acs[k]? = some c) (hg : BkGood { s with acs := s.acs.set k (c.1, true) }) :
  RefAt (w.setCell ⟨g, k, none⟩ (.bool true)) B p vp (.slice (some ⟨g, 0, none⟩) s.acs.length cap) vt tv { s with acs := s.acs.set k (c.1, true) } ∧ FrT B tR w (w.setCell ⟨g, k, none⟩ (.bool true)) := by
 have ht := oTg h.clo g rfl
 have f1 : FrT B [4] w (w.setCell ⟨g, k, none⟩ (.bool true)) := (FrT.refl _ _ w).setCell (T := 4) (by simp) ht.2 ht.1 _
 refine ⟨⟨h.blk.frT f1 (by decide), h.lo, ?_, ?_, h.txs.frT f1 (by decide) (by decide), h.jr, hg⟩, f1.mono (by simp [tR])⟩
 ·simp only [List.length_set]
  rw [map_shut hc]
  exact oFrT h.par f1 (by decide)
 ·simp only [List.length_set, List.map_set]
  exact own_set h.clo _
theorem info_rtx : (Tryz.prog.info? 87).map (fun i => (i.zero, i.size, i.bytes)) = some (some (.agg #[.int .i64 0, .int .i64 0, .slice none 0 0]), 3, 40) := by kernel_rfl
theorem size_line : (Tryz.prog.info? 89).map (·.size) = some 2 := by kernel_rfl
theorem pst_ref {s : Bk} {id day : Int} {ls : List Ln} (h : ¬ (id < 0 ∨ 9999 < id)) (hf : findT id s.txs = none) (hr : ¬ refE s day ls = 0) : pst s id day ls = (refE s day ls, s) := by
 by_cases hd : day < 0 ∨ 999 < day
 ·rw [pst_day h hf hd, refE_14 hd]
 ·by_cases hl : lnsE s ls = 0
  ·by_cases h64 : 64 ≤ s.txs.length
   ·rw [pst_full h hf hd hl h64, refE_11 hd hl h64]
   ·exact absurd (refE_0 hd hl h64) hr
  ·rw [pst_bad h hf hd hl, refE_l hd rfl hl]
theorem refE_zero {s : Bk} {day : Int} {ls : List Ln} (h : refE s day ls = 0) : ¬ (day < 0 ∨ 999 < day) ∧ lnsE s ls = 0 ∧ ¬ 64 ≤ s.txs.length := by
 unfold refE at h
 split at h
 ·simp at h
 ·rename_i h1
  split at h
  ·rename_i h2; exact absurd h h2
  ·rename_i h2
   split at h
   ·simp at h
   ·rename_i h3; exact ⟨h1, Decidable.not_not.1 h2, h3⟩
theorem RefAt.post {w w5 : World} {B p : Nat} {vp vc vt vt' v2 : Value} {tv : List (Tn × Value)} {s s' : Bk} {t : Tn} (h : RefAt w B p vp vc vt tv s) (o : Obj) (hv : w.ownsRow B 89 2 v2 t.2.2.length (cellsL t.2.2)) (hgr : (w.alloc o).grownBy w5 vt.ownBlock) (hblk : Blk w5 p #[vp, vc, vt] 84)
  (hown : w5.ownsRow B 87 3 vt' (tv.length + 1) (cellsT (tv ++ [(t, v2)]))) (hs : s'.txs = s.txs ++ [t]) (ha : s'.acs = s.acs) (hg : BkGood s') :
  RefAt (w5.setCell ⟨p, 2, none⟩ vt') B p vp vc vt' (tv ++ [(t, v2)]) s' ∧ FrT B tR w (w5.setCell ⟨p, 2, none⟩ vt') := by
 have f1 : FrT B [87] w w5 := ((FrT.refl _ _ w).alloc o).grown hgr (T := 87) (by simp) (fun k hk => ⟨(oTg h.txs.own k hk).1, tg_alloc (oTg h.txs.own k hk).2 o⟩)
 have f2 : FrT B [84] w5 (w5.setCell ⟨p, 2, none⟩ vt') := (FrT.refl _ _ w5).setCell (T := 84) (by simp) hblk.tg h.lo _
 refine ⟨⟨?_, h.lo, ?_, ?_, ⟨?_, ?_⟩, ?_, hg⟩, (f1.mono (by simp [tR])).trans (f2.mono (by simp [tR]))⟩
 ·have := hblk.set 2 vt'
  simpa using this
 ·rw [ha]; exact oFrT (oFrT h.par f1 (by decide)) f2 (by decide)
 ·rw [ha]; exact oFrT (oFrT h.clo f1 (by decide)) f2 (by decide)
 ·have := oFrT hown f2 (by decide)
  simpa using this
 ·intro x hx
  rcases List.mem_append.1 hx with hx | hx
  ·exact oFrT (oFrT (h.txs.lns x hx) f1 (by decide)) f2 (by decide)
  ·simp only [List.mem_singleton] at hx
   subst hx
   exact oFrT (oFrT hv f1 (by decide)) f2 (by decide)
 ·rw [hs, ← h.jr]; simp
theorem own_copied {w w' : World} {B : Nat} {ls : List Ln} (hB : B ≤ w.heap.size) (hn : ls.length ≤ 4) (hg : w'.heap[w.heap.size]? = some (.cells (cellsL ls ++ (madeCells #[.int .i64 0, .int .i64 0] (ls.length * 2)).toList.drop (cellsL ls).length).toArray 89 (0, 0))) :
  w'.ownsRow B 89 2 (.slice (some ⟨w.heap.size, 0, none⟩) ls.length ls.length) ls.length (cellsL ls) := by
 have hd : (madeCells #[.int .i64 0, .int .i64 0] (ls.length * 2)).toList.drop (cellsL ls).length = [] := by
  apply List.drop_of_length_le
  rw [Array.length_toList, size_madeCells, cellsL_length]
  exact Nat.le_refl _
 rw [hd, List.append_nil] at hg
 have := owns_new (B := B) (size := 2) (n := ls.length) hg hB (by unfold maxLen; omega) (by simpa using cellsL_length ls)
 simpa using this
structure RefAx (X : Nat → Prop) (w : World) (B p : Nat) (vp vc vt : Value) (tv : List (Tn × Value)) (s : Bk) : Prop extends RefAt w B p vp vc vt tv s where
 xq : ¬ X p
 xp : ∀ k, vp.ownBlock = some k → ¬ X k
 xc : ∀ k, vc.ownBlock = some k → ¬ X k
 xt : ∀ k, vt.ownBlock = some k → ¬ X k
 top : ∀ k, X k → k < w.heap.size
def Rfdx (X : Nat → Prop) (w : World) (B p : Nat) (s : Bk) : Prop := ∃ vp vc vt tv, RefAx X w B p vp vc vt tv s
theorem Rfdx.rfd {X : Nat → Prop} {w : World} {B p : Nat} {s : Bk} (h : Rfdx X w B p s) : Rfd w B p s := by obtain ⟨vp, vc, vt, tv, h⟩ := h; exact ⟨vp, vc, vt, tv, h.toRefAt⟩
theorem RefAx.keptX {X : Nat → Prop} {w w' : World} {B p : Nat} {vp vc vt : Value} {tv : List (Tn × Value)} {s : Bk} (h : RefAx X w B p vp vc vt tv s) (hb : Below w.heap.size w w') : RefAx X w' B p vp vc vt tv s :=
 ⟨h.toRefAt.kept hb, h.xq, h.xp, h.xc, h.xt, fun k hk => Nat.lt_of_lt_of_le (h.top k hk) hb.size⟩
theorem Rfdx.keptX {X : Nat → Prop} {w w' : World} {B p : Nat} {s : Bk} (h : Rfdx X w B p s) (hb : Below w.heap.size w w') : Rfdx X w' B p s := by obtain ⟨vp, vc, vt, tv, h⟩ := h; exact ⟨vp, vc, vt, tv, h.keptX hb⟩
theorem RefAt.keptF {X : Nat → Prop} {w w' : World} {B B' p : Nat} {vp vc vt : Value} {tv : List (Tn × Value)} {s : Bk} {Ts : List TypeId} (h : RefAt w B p vp vc vt tv s) (hf : FrX X B' Ts w w') (hl : 89 ∉ Ts) (hq : X p) (hp : ∀ k, vp.ownBlock = some k → X k) (hc : ∀ k, vc.ownBlock = some k → X k) (ht : ∀ k, vt.ownBlock = some k → X k) : RefAt w' B p vp vc vt tv s := by
 have own : ∀ {e : TypeId} {size : Nat} {v : Value} {n : Nat} {xs : List Value}, w.ownsRow B e size v n xs → (∀ k, v.ownBlock = some k → X k) → w'.ownsRow B e size v n xs := by
  intro e size v n xs ho hx
  refine ⟨ho.1, ?_⟩
  rcases ho.2 with hn | ⟨g, cap, cur, rfl, hbg, hgg, rest⟩
  ·exact .inl hn
  ·refine .inr ⟨g, cap, cur, rfl, hbg, ?_, rest⟩
   rw [hf.keep g (hx g rfl) (Array.getElem?_eq_some_iff.1 hgg).1]
   exact hgg
 refine ⟨?_, h.lo, own h.par hp, own h.clo hc, ⟨own h.txs.own ht, fun x hx => oFrT (h.txs.lns x hx) hf.fr hl⟩, h.jr, h.good⟩
 have hlt := h.blk.lt
 have hb := h.blk
 unfold Blk at hb ⊢
 rw [hf.keep p hq hlt]; exact hb
theorem RefAx.more {X : Nat → Prop} {w w5 w6 : World} {B p : Nat} {vp vp' vc vc' vt : Value} {tv : List (Tn × Value)} {s s' : Bk} (h : RefAx X w B p vp vc vt tv s) (o o2 : Obj) (hgr : (w.alloc o).grownBy w5 vp.ownBlock) (hblk : Blk w5 p #[vp, vc, vt] 84)
  (hown : w5.ownsRow B 3 1 vp' s'.acs.length (s'.acs.map fun a => .int .i64 a.1))
  (hgr2 : ((w5.setCell ⟨p, 0, none⟩ vp').alloc o2).grownBy w6 vc.ownBlock) (hblk2 : Blk w6 p #[vp', vc, vt] 84)
  (hown2 : w6.ownsRow B 4 1 vc' s'.acs.length (s'.acs.map fun a => .bool a.2)) (hs : s'.txs = s.txs) (hg : BkGood s') (hat1 : vp'.ownBlock = vp.ownBlock ∨ vp'.ownBlock = some (w.alloc o).heap.size) (hat2 : vc'.ownBlock = vc.ownBlock ∨ vc'.ownBlock = some ((w5.setCell ⟨p, 0, none⟩ vp').alloc o2).heap.size) :
  RefAx X (w6.setCell ⟨p, 1, none⟩ vc') B p vp' vc' vt tv s' ∧ FrX X B tR w (w6.setCell ⟨p, 1, none⟩ vc') := by
 have f1 : FrX X B [3] w w5 := ((FrX.refl _ _ w).alloc o).grown hgr (T := 3) (by simp) (fun k hk => ⟨(oTg h.par k hk).1, tg_alloc (oTg h.par k hk).2 o⟩) h.xp
 have f2 : FrX X B [84] w5 (w5.setCell ⟨p, 0, none⟩ vp') := (FrX.refl _ _ w5).setCell (T := 84) (by simp) hblk.tg h.lo h.xq _
 have hc : (w5.setCell ⟨p, 0, none⟩ vp').ownsRow B 4 1 vc s.acs.length (s.acs.map fun a => .bool a.2) := oFrT (oFrT h.clo f1.fr (by decide)) f2.fr (by decide)
 have f3 : FrX X B [4] (w5.setCell ⟨p, 0, none⟩ vp') w6 := ((FrX.refl _ _ _).alloc o2).grown hgr2 (T := 4) (by simp) (fun k hk => ⟨(oTg hc k hk).1, tg_alloc (oTg hc k hk).2 o2⟩) h.xc
 have f4 : FrX X B [84] w6 (w6.setCell ⟨p, 1, none⟩ vc') := (FrX.refl _ _ w6).setCell (T := 84) (by simp) hblk2.tg h.lo h.xq _
 have hsz : w.heap.size ≤ (w5.setCell ⟨p, 0, none⟩ vp').heap.size := Nat.le_trans f1.fr.size f2.fr.size
 refine ⟨⟨⟨?_, h.lo, oFrT (oFrT (oFrT hown f2.fr (by decide)) f3.fr (by decide)) f4.fr (by decide), oFrT hown2 f4.fr (by decide), (((h.txs.frT f1.fr (by decide) (by decide)).frT f2.fr (by decide) (by decide)).frT f3.fr (by decide) (by decide)).frT f4.fr (by decide) (by decide), by rw [hs]; exact h.jr, hg⟩, h.xq, fresh_not h.top h.xp (by simp) hat1, fresh_not h.top h.xc (Nat.le_trans hsz (by simp)) hat2, h.xt, fun k hk => Nat.lt_of_lt_of_le (h.top k hk) (Nat.le_trans hsz (Nat.le_trans f3.fr.size f4.fr.size))⟩, ?_⟩
 ·have := hblk2.set 1 vc'
  simpa using this
 ·exact (((f1.mono (by simp [tR])).trans (f2.mono (by simp [tR]))).trans (f3.mono (by simp [tR]))).trans (f4.mono (by simp [tR]))
theorem refOpenX_any (X : Nat → Prop) (B p : Nat) (s : Bk) (a : Int) (w : World) (h : Rfdx X w B p s) :
  Calls Tryz.prog 13 #[.pointer (some ⟨p, 0, none⟩), .int .i64 a] w fun e w' => e = .returned (.tuple #[.int .i64 (opn s a).1, .int .i64 (opn s a).2.1]) ∧ Rfdx X w' B p (opn s a).2.2 ∧ FrX X B tR w w' := by
 have Ht := hI (there_any B p s a w h.rfd)
 obtain ⟨vp, vc, vt, tv, h⟩ := h
 obtain ⟨ii, hi, hz0, hz1, hz2⟩ := info_parts infoInt
 obtain ⟨jj, hj, hy0, hy1, hy2⟩ := info_parts infoBool
 obtain ⟨g, cap, rfl, hg, hg'⟩ := oSome h.par h.good.one
 obtain ⟨g2, cap2, rfl, hg2, hg2'⟩ := oSome h.clo h.good.one
 have c0 := h.blk.cell 0
 have c1 := h.blk.cell 1
 have z0 := h.blk.frozen 0
 have z1 := h.blk.frozen 1
 have hlp := h.blk.lt
 simp only [List.getElem?_toArray, List.getElem?_cons_zero, List.getElem?_cons_succ] at c0 c1
 have hfew := h.good.few
 have H := hI h
 by_cases hin : a < 0 ∨ (s.acs.length : Int) ≤ a
 ·have ht := ther_no hin
  rw [opn_none ht]
  rw [ht] at Ht
  clear h ht
  go_enter Tryz.func13, Tryz.ntmps13
  go_wp2_with fail
  refine Ht.u.mono ?_
  rintro e w1 ⟨rfl, rfl⟩
  go_wp2_with fail
  go_ret2
  exact ⟨rfl, ⟨_, _, _, _, H.u⟩, FrX.refl _ _ _⟩
 ·obtain ⟨k, rfl⟩ : ∃ k : Nat, a = k := ⟨a.toNat, by omega⟩
  have hk : k < s.acs.length := by omega
  obtain ⟨c, hc⟩ := acs_get hk
  have d := oCell h.clo (j := k) (u := .bool c.2) (by rw [List.getElem?_map, hc]; rfl)
  have ht := ther_nat hk
  rw [ht] at Ht
  have hcl := clsd_at hc
  clear h hin
  cases hcc : c.2 with
  | true =>
   rw [hcc] at d hcl
   rw [opn_shut ht hcl]
   clear ht hcl hc
   go_enter Tryz.func13, Tryz.ntmps13
   go_wp2_with fail
   refine Ht.u.mono ?_
   rintro e w1 ⟨rfl, rfl⟩
   go_wp2_with fail
   go_ret2
   exact ⟨rfl, ⟨_, _, _, _, H.u⟩, FrX.refl _ _ _⟩
  | false =>
   rw [hcc] at d hcl
   by_cases hf : 16 ≤ s.acs.length
   ·rw [opn_full ht hcl hf]
    have he : ((s.acs.length : Int) == 16) = true := by simp; omega
    clear ht hcl hc
    go_enter Tryz.func13, Tryz.ntmps13
    go_wp2_with fail
    refine Ht.u.mono ?_
    rintro e w1 ⟨rfl, rfl⟩
    go_wp2_with fail
    go_ret2
    exact ⟨rfl, ⟨_, _, _, _, H.u⟩, FrX.refl _ _ _⟩
   ·have hok := opn_ok ht hcl hf
    have he : ((s.acs.length : Int) == 16) = false := by simp; omega
    have Hgood : Hid (BkGood { s with acs := s.acs ++ [((k : Int), false)] }) := by
     have := BkGood.opn H.u.good (k : Int)
     rw [hok] at this
     exact this
    rw [hok]
    clear ht hcl hc hok
    go_enter Tryz.func13, Tryz.ntmps13
    go_wp2_with fail
    refine Ht.u.mono ?_
    rintro e w1 ⟨rfl, rfl⟩
    go_wp2_with (first
     | (at_builtin; refine wpList_append_own_at _ rfl (.tmp 32) (.tmp 34) 28 rfl B 3 ii (.int .i64 0) 1 8 Tryz.underlying28 hi hz0 hz1 hz2 rfl (by decide) (.slice (some ⟨g, 0, none⟩) s.acs.length cap) s.acs.length _ rfl (H.u.par.alloc _) ⟨w1.heap.size, 0, none⟩ 1 1 [.int .i64 (k : Int)] rfl rfl (new1 _ _ (by simp) _ _) (fun x hx => by simp at hx; subst hx; rfl) (by unfold maxLen; omega) (by omega) (by simp; omega) ?_; intro vq' w5 hown5 hgr5 _ hat5; have Hat5 := hI hat5; clear hat5; obtain ⟨gf, cf, rfl, hgf, hgf'⟩ := oSome hown5 (Nat.succ_pos _); have hblk5 := (H.u.blk.alloc _).grown hgr5 (blk_own_ne H.u.blk H.u.par (by decide)); have c5 := hblk5.cell 0; have z5 := hblk5.frozen 0; have l5 := hblk5.lt; have e5 := hblk5.cell 1; have y5 := hblk5.frozen 1; simp only [List.getElem?_toArray, List.getElem?_cons_zero, List.getElem?_cons_succ] at c5 e5; have Hclo5 := hI ((H.u.clo.alloc _).kept hgr5 (own_apart' H.u.clo H.u.par (by decide))); have Hlo := hI H.u.lo; have Hclo6 := hI (fun v => oFrT Hclo5.u ((FrT.refl B [84] w5).setCell (p := ⟨p, 0, none⟩) (T := 84) (by simp) hblk5.tg Hlo.u v) (by decide)); have Hblk6 := hI (fun v => hblk5.set 0 v); have Hblk5 := hI hblk5; have Hown5 := hI hown5; have Hgr5 := hI hgr5; clear hblk5 hown5 hgr5)
     | (at_builtin; refine wpList_append_own_at _ rfl (.tmp 42) (.tmp 43) 60 rfl B 4 jj (.bool false) 1 1 Tryz.underlying60 hj hy0 hy1 hy2 rfl (by decide) (.slice (some ⟨g2, 0, none⟩) s.acs.length cap2) s.acs.length _ rfl ((Hclo6.u _).alloc _) ⟨w5.heap.size, 0, none⟩ 1 1 [.bool false] rfl rfl (new1 _ _ (by simp [World.setCell]) _ _) (fun x hx => by simp at hx; subst hx; rfl) (by unfold maxLen; omega) (by omega) (by simp [World.setCell]; omega) ?_; intro vq' w6 hown6 hgr6 _ hat6; have Hat6 := hI hat6; clear hat6; obtain ⟨gh, ch, rfl, hgh, hgh'⟩ := oSome hown6 (Nat.succ_pos _); have hblk6 := ((Hblk6.u _).alloc _).grown hgr6 (blk_own_ne (Hblk6.u vt) (Hclo6.u vt) (by decide)); simp only [List.setIfInBounds_toArray, List.set_cons_zero] at hblk6; have c6 := hblk6.cell 1; have z6 := hblk6.frozen 1; have l6 := hblk6.lt; have e6 := hblk6.cell 0; simp only [List.getElem?_toArray, List.getElem?_cons_zero, List.getElem?_cons_succ] at c6 e6; have Hbl6 := hI hblk6; have Hown6 := hI hown6; have Hgr6 := hI hgr6; clear hblk6 hown6 hgr6))
    go_ret2
    have hfin := H.u.more _ _ Hgr5.u Hblk5.u (s' := { s with acs := s.acs ++ [((k : Int), false)] }) (by simpa using Hown5.u) Hgr6.u Hbl6.u (by simpa using Hown6.u) rfl Hgood.u Hat5.u Hat6.u
    exact ⟨by simp, ⟨_, _, _, _, hfin.1⟩, hfin.2⟩
end Go.Proofs.YtdchbenfccofpaaGreatDoor
