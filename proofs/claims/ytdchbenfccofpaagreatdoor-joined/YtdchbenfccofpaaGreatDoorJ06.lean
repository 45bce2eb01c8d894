/- The disk: a record is laid. The program's book, with its disk: Open, Close, Post. A step on a book: called. A record: it follows a Close. A record: it follows an Open. The law's lists: still, over. The law's pair of books: opened, closed. -/
import Derived.Test.YtdchbenfccofpaaGreatDoorJ05
import Derived.Deep.AppendLies
import Derived.Deep.RegionLaw
import Derived.Test.YtdchbenfccofpaaGreatDoorJ04
import Derived.Test.YtdchbenfccofpaaGreatDoorJ01
import Derived.Deep.RegionHeld3
namespace Go.Proofs.YtdchbenfccofpaaGreatDoor
open Go.RowKit Db

theorem info_write : (Tryz.prog.info? 153).map (fun i => (i.zero, i.size, i.bytes)) = some (some (.agg #[.int .i64 0, .string ⟨#[]⟩]), 2, 24) := by kernel_rfl
/-- What is on the disk's list behind a call: a record and a flush more, or nothing. -/
def dkU (yes : Bool) (u : Nat) : Nat := if yes then u + 1 else u
def dkW (yes : Bool) (u : Nat) (x : ByteArray) (ws : List Wr) : List Wr := if yes then ws ++ [((u : Int), x), (-1, ⟨#[]⟩)] else ws

set_option maxRecDepth 100000 in
set_option maxHeartbeats 4000000 in
theorem lay_any (B p u : Nat) (va vt vw : Value) (ws : List Wr) (k : Nat) (n d : Int) (v : Value) (ls : List Ln) (w : World) (hblk : Blk w p #[va, vt, .int .i64 (u : Int), vw] 102) (hB : B ≤ p) (how : w.ownsRow B 153 2 vw ws.length (cellsW ws)) (hwl : ws.length ≤ 2 * u) (hu : u ≤ 95)
    (hk : k < 256) (hn : AmtOk n) (hd : AmtOk d) (hl : LinesAt w v ls) (h4 : ls.length ≤ 4) (hls : ∀ l ∈ ls, AmtOk l.1 ∧ AmtOk l.2) :
    Calls Tryz.prog 103 #[.pointer (some ⟨p, 2, none⟩), .agg #[.int .u8 (k : Int), .int .i64 n, .int .i64 d, v]] w fun e w' => e = .returned (.tuple #[]) ∧ (∃ vw', Blk w' p #[va, vt, .int .i64 ((u + 1 : Nat) : Int), vw'] 102 ∧ w'.ownsRow B 153 2 vw' (ws.length + 1 + 1) (cellsW (ws ++ [((u : Int), secB k n d ls), (-1, ⟨#[]⟩)]))) ∧ FrT B [102, 153] w w' := by
  obtain ⟨ii, hi, hz0, hz1, hz2⟩ := info_parts info_write
  obtain ⟨ao, cap, rfl⟩ := hl.form
  obtain ⟨aw, cw, rfl⟩ := ownsRow_form how
  obtain ⟨bx, hbx⟩ : ∃ bx, w.heap.size = bx := ⟨_, rfl⟩
  obtain ⟨W, hW⟩ : ∃ W, w.alloc (.cells #[.int .u8 (k : Int), .int .i64 n, .int .i64 d, .slice ao ls.length cap] 173) = W := ⟨_, rfl⟩
  have HX : Hid (Blk W bx #[.int .u8 (k : Int), .int .i64 n, .int .i64 d, .slice ao ls.length cap] 173) := by rw [← hW, ← hbx]; exact Blk.new _ _ _
  have Hb0 : Hid (Below w.heap.size w W) := by rw [← hW]; exact (Below.refl _ _).alloc (Nat.le_refl _) _
  have Hsec := hide (sector_any k n d _ ls W hk hn hd (hl.kept (unhide Hb0)) h4 hls)
  have HK0 := hide (hblk.kept (unhide Hb0))
  have HO0 := hide (ownsRow_below how (unhide Hb0))
  have x0 := (unhide HX).cell 0
  have x1 := (unhide HX).cell 1
  have x2 := (unhide HX).cell 2
  have x3 := (unhide HX).cell 3
  simp only [List.getElem?_toArray, List.getElem?_cons_zero, List.getElem?_cons_succ] at x0 x1 x2 x3
  obtain ⟨sx, hsx⟩ : ∃ sx, secB k n d ls = sx := ⟨_, rfl⟩
  rw [hsx] at Hsec ⊢
  clear hblk how hn hd hl hls hsx hk
  go_enter Tryz.func103, Tryz.ntmps103
  go_wp2_with fail
  try rw [hW]
  try rw [hbx]
  clear hW hbx
  refine (unhide Hsec).mono ?_
  rintro e w1 ⟨rfl, hb1⟩
  have HK1 := hide ((unhide HK0).kept hb1)
  have HO1 := hide (ownsRow_below (unhide HO0) hb1)
  have HF1 : Hid (FrT B [102, 153] w w1) := (FrT.of_below (unhide Hb0)).then hb1
  have c2 := (unhide HK1).cell 2
  have c3 := (unhide HK1).cell 3
  have z3 := (unhide HK1).frozen 3
  have lq := (unhide HK1).lt
  simp only [List.getElem?_toArray, List.getElem?_cons_zero, List.getElem?_cons_succ] at c2 c3
  have hBw : B ≤ w1.heap.size := by omega
  have Hnb : Hid (Blk (w1.alloc (.cells #[.int .i64 (u : Int), .string sx] 153)) w1.heap.size #[.int .i64 (u : Int), .string sx] 153) := Blk.new _ _ _
  have hne1 : w1.heap.size ≠ p := by omega
  clear hb1 x0 x1 x2 x3
  go_upto_region 2 with fail
  go_region_law (refine step_append_lies _ rfl (.tmp 11) (.tmp 18) 72 rfl B 153 ii (.agg #[.int .i64 0, .string ⟨#[]⟩]) 2 24 Tryz.underlying72 hi hz0 hz1 hz2 rfl (by decide) (.slice aw ws.length cw) ws.length _ (by simp [Act.eval]) (by first | exact ((unhide HO1).alloc _).drew | exact ((unhide HO1).alloc _)) ⟨w1.heap.size, 0, none⟩ 1 1 [.int .i64 (u : Int), .string sx] (by simp [Act.eval]) rfl (World.news_of_block (by exact unhide Hnb)) (fun x hx => by simp at hx; rcases hx with rfl | rfl <;> rfl) (by decide) (by unfold maxLen; omega) (by omega) (by simp <;> omega) (w1.heap.size + 1) (by simp) ?_; intro gf cf w5 hown5 hgr5 hat5 hlt5; have hblk5 := Blk.grown (cs := #[va, vt, .int .i64 (u : Int), .slice aw ws.length cw]) (T := 102) (b := p) (by exact ((unhide HK1).alloc _)) hgr5 (blk_own_ne (unhide HK1) (unhide HO1) (by decide)); have c5 := hblk5.cell 3; have z5 := hblk5.frozen 3; have e5 := hblk5.cell 2; have y5 := hblk5.frozen 2; have l5 := hblk5.lt; simp only [List.getElem?_toArray, List.getElem?_cons_zero, List.getElem?_cons_succ] at c5 e5; have Hblk5 := hide hblk5; have Hown5 := hide hown5; have Hgr5 := hide hgr5; clear hblk5 hown5 hgr5 hat5)
  all_goals
    have Hf1 : Hid (FrT B [153] w1 w5) := ((((FrT.refl _ _ w1).alloc _).drew).grown (unhide Hgr5) (T := 153) (by simp) (fun j hj => ⟨(ownsRow_tg (unhide HO1) j hj).1, tg_alloc (ownsRow_tg (unhide HO1) j hj).2 _⟩))
    have Hown6 := hide (fun v => ownsRow_frT (unhide Hown5) ((FrT.refl B [102] w5).setCell (p := ⟨p, 3, none⟩) (T := 102) (by simp) (unhide Hblk5).tg hB v) (by decide))
    have Hblk6 := hide (fun v => (unhide Hblk5).set 3 v)
    go_wp2_with (first
      | (at_builtin; refine wpList_append_own _ rfl (.tmp 26) (.tmp 28) 72 rfl B 153 ii (.agg #[.int .i64 0, .string ⟨#[]⟩]) 2 24 Tryz.underlying72 hi hz0 hz1 hz2 rfl (by decide) (.slice (some ⟨gf, 0, none⟩) (ws.length + 1) cf) (ws.length + 1) _ rfl ((unhide Hown6 _).alloc _) ⟨w5.heap.size, 0, none⟩ 1 1 [.int .i64 (-1), .string ⟨#[]⟩] rfl rfl (new2 _ _ (by simp [World.setCell]) _ _ _) (fun x hx => by simp at hx; rcases hx with rfl | rfl <;> rfl) (by unfold maxLen; omega) (by omega) (by simp [World.setCell]; omega) ?_; intro vq' w6 hown6 hgr6 _; obtain ⟨gh, ch, rfl, hgh, hgh'⟩ := ownsRow_some hown6 (Nat.succ_pos _); have hblk6 := ((unhide Hblk6 _).alloc _).grown hgr6 (blk_own_ne (unhide Hblk6 vt) (unhide Hown6 vt) (by decide)); simp only [List.setIfInBounds_toArray, List.set_cons_zero, List.set_cons_succ] at hblk6; have c6 := hblk6.cell 3; have z6 := hblk6.frozen 3; have l6 := hblk6.lt; have e6 := hblk6.cell 2; have y6 := hblk6.frozen 2; simp only [List.getElem?_toArray, List.getElem?_cons_zero, List.getElem?_cons_succ] at c6 e6; have Hbl6 := hide hblk6; have Hown6' := hide hown6; have Hgr6 := hide hgr6; clear hblk6 hown6 hgr6))
    go_end0
    have g1 := (FrT.refl B [102, 153] w5).setCell (p := ⟨p, 3, none⟩) (T := 102) (by simp) (unhide Hblk5).tg hB (.slice (some ⟨gf, 0, none⟩) (ws.length + 1) cf)
    have g2 := (g1.alloc (.cells #[.int .i64 (-1), .string ⟨#[]⟩] 153)).grown (unhide Hgr6) (T := 153) (by simp) (fun j hj => ⟨(ownsRow_tg (unhide Hown6 vt) j hj).1, tg_alloc (ownsRow_tg (unhide Hown6 (.slice (some ⟨gf, 0, none⟩) (ws.length + 1) cf)) j hj).2 _⟩)
    have b7 := (unhide Hbl6).set 3 (.slice (some ⟨gh, 0, none⟩) (ws.length + 1 + 1) ch)
    have b8 := b7.set 2 (.int .i64 ((u + 1 : Nat) : Int))
    simp only [List.setIfInBounds_toArray, List.set_cons_zero, List.set_cons_succ] at b8
    have g3 := (g2.setCell (p := ⟨p, 3, none⟩) (T := 102) (by simp) (unhide Hbl6).tg hB (.slice (some ⟨gh, 0, none⟩) (ws.length + 1 + 1) ch)).setCell (p := ⟨p, 2, none⟩) (T := 102) (by simp) b7.tg hB (.int .i64 ((u + 1 : Nat) : Int))
    have g4 := ((FrT.refl B [102] w6).setCell (p := ⟨p, 3, none⟩) (T := 102) (by simp) (unhide Hbl6).tg hB (.slice (some ⟨gh, 0, none⟩) (ws.length + 1 + 1) ch)).setCell (p := ⟨p, 2, none⟩) (T := 102) (by simp) b7.tg hB (.int .i64 ((u + 1 : Nat) : Int))
    refine ⟨rfl, ⟨_, b8, ?_⟩, ((unhide HF1).trans ((unhide Hf1).mono (by simp))).trans g3⟩
    have := ownsRow_frT (unhide Hown6') g4 (by decide)
    simpa [cellsW] using this

end Go.Proofs.YtdchbenfccofpaaGreatDoor
namespace Go.Proofs.YtdchbenfccofpaaGreatDoor
open Go.RowKit Db

theorem opn_cnt {s : Bk} (hg : BkGood s) (a : Int) : ((opn s a).2.1 = 0 ∧ 0 ≤ a ∧ a < 16 ∧ cnt (opn s a).2.2 = cnt s + 1) ∨ (¬ (opn s a).2.1 = 0 ∧ (opn s a).2.2 = s) := by
  have h1 := hg.few
  unfold opn
  repeat' split
  all_goals first | exact .inr ⟨by simp, rfl⟩ | skip
  rename_i h2 _ _
  left
  unfold ther at h2
  simp only [Bool.not_eq_false, Bool.and_eq_true, decide_eq_true_eq] at h2
  exact ⟨rfl, by omega, by omega, cnt_more hg rfl⟩
theorem cls_cnt {s : Bk} (hg : BkGood s) (a : Int) : ((cls s a).1 = 0 ∧ 0 ≤ a ∧ a < 16 ∧ cnt (cls s a).2 = cnt s + 1) ∨ (¬ (cls s a).1 = 0 ∧ (cls s a).2 = s) := by
  have h1 := hg.few
  unfold cls
  repeat' split
  all_goals first | exact .inr ⟨by simp, rfl⟩ | skip
  rename_i h2 h3 _ _
  left
  have h4 : ther s a = true := by cases hx : ther s a with | true => rfl | false => exact absurd (.inl hx) h2
  unfold ther at h4
  simp only [Bool.and_eq_true, decide_eq_true_eq] at h4
  obtain ⟨c, hc⟩ := acs_get (s := s) (k := a.toNat) (by omega)
  have h5 : clsd s a = c.2 := by unfold clsd; simp [hc]
  have h6 : s.acs.getD a.toNat (0, false) = c := by simp [hc]
  refine ⟨rfl, by omega, by omega, ?_⟩
  simp only [h6]
  rw [cnt_shut hc, if_neg (by rw [← h5]; exact h3)]
theorem pst_cnt {s : Bk} (hg : BkGood s) (id day : Int) (ls : List Ln) : (isN s id day ls = true ∧ (pst s id day ls).1 = 0 ∧ 0 ≤ id ∧ id ≤ 9999 ∧ 0 ≤ day ∧ day ≤ 999 ∧ ls.length ≤ 4 ∧ (∀ l ∈ ls, 0 < l.1 ∧ l.1 < s.acs.length ∧ -1000000000000 ≤ l.2 ∧ l.2 ≤ 1000000000000) ∧ (pst s id day ls).2 = { s with txs := s.txs ++ [(id, day, ls)] } ∧ cnt (pst s id day ls).2 = cnt s + 1) ∨ (isN s id day ls = false ∧ (pst s id day ls).2 = s) := by
  by_cases hid : id < 0 ∨ 9999 < id
  · have := pst_id (s := s) (day := day) (ls := ls) hid
    exact .inr ⟨isN_no (by rw [this]), by rw [this]⟩
  cases hfd : findT id s.txs with
  | some t =>
    have := pst_old (day := day) (ls := ls) hid hfd
    exact .inr ⟨isN_no (by rw [this]), by rw [this]⟩
  | none =>
    by_cases hd : day < 0 ∨ 999 < day
    · have := pst_day (ls := ls) hid hfd hd
      exact .inr ⟨isN_no (by rw [this]), by rw [this]⟩
    by_cases hlz : lnsE s ls = 0
    · by_cases h64 : 64 ≤ s.txs.length
      · have := pst_full hid hfd hd hlz h64
        exact .inr ⟨isN_no (by rw [this]), by rw [this]⟩
      · have hok := pst_ok hid hfd hd hlz h64
        have hl := lnsE_ok hg hlz
        exact .inl ⟨isN_yes (by rw [hok]), by rw [hok], by omega, by omega, by omega, by omega, hl.1, hl.2, by rw [hok], by rw [hok]; exact cnt_post⟩
    · have := pst_bad hid hfd hd hlz
      exact .inr ⟨isN_no (by rw [this]), by rw [this]⟩

theorem LedAt.laid {w w2 : World} {B p u : Nat} {va vt vw vw' : Value} {tv : List (Tn × Value)} {ws : List Wr} {s : Bk} {x : ByteArray} (h : LedAt w B p va vt tv ⟨u, vw, ws⟩ s) (hc : u < cnt s) (hb : Blk w2 p #[va, vt, .int .i64 ((u + 1 : Nat) : Int), vw'] 102)
    (ho : w2.ownsRow B 153 2 vw' (ws.length + 1 + 1) (cellsW (ws ++ [((u : Int), x), (-1, ⟨#[]⟩)]))) (hf : FrT B [102, 153] w w2) : LedAt w2 B p va vt tv ⟨u + 1, vw', ws ++ [((u : Int), x), (-1, ⟨#[]⟩)]⟩ s :=
  ⟨hb, h.lo, ownsRow_frT h.acs hf (by decide), h.txs.frT hf (by decide) (by decide), h.jr, h.good, by simpa using ho, by have := h.dlen; simp at this ⊢; omega, hc⟩
theorem LinesAt.frTy {w w' : World} {B : Nat} {Ts : List TypeId} {v : Value} {ls : List Ln} (h : LinesAt w v ls) (hf : FrT B Ts w w') (ht : ∀ k, v.ownBlock = some k → Tg w k 89) (hn : 89 ∉ Ts) : LinesAt w' v ls := by
  obtain ⟨ao, cap, rfl, hr⟩ := h
  refine ⟨ao, cap, rfl, ?_⟩
  rcases hr with hr | ⟨b, off, rfl, hlt, hc⟩
  · exact .inl hr
  · obtain ⟨cs, fz, hg⟩ := ht b rfl
    have hb := hf.block b hlt (fun _ T hT ⟨ds, gz, h2⟩ => by rw [hg] at h2; simp at h2; exact hn (h2.2.1 ▸ hT))
    refine .inr ⟨b, off, rfl, Nat.lt_of_lt_of_le hlt hf.size, fun i l hl => ?_⟩
    have h1 : ∀ j, w'.cell? ⟨b, j, none⟩ = w.cell? ⟨b, j, none⟩ := fun j => World.cell?_of_block (a := ⟨b, j, none⟩) hb
    rw [h1, h1]
    exact hc i l hl
theorem LinesAt.nil (w : World) : LinesAt w (.slice none 0 0) [] := ⟨_, _, rfl, .inl rfl⟩

set_option maxRecDepth 100000 in
set_option maxHeartbeats 2000000 in
theorem dayOpenW_any (B p u : Nat) (ws : List Wr) (s : Bk) (a : Int) (w : World) (h : LedW w B p u ws s) :
    Calls Tryz.prog 66 #[.pointer (some ⟨p, 0, none⟩), .int .i64 a] w fun e w' => e = .returned (.tuple #[.int .i64 (opn s a).1, .int .i64 (opn s a).2.1]) ∧ LedW w' B p (dkU (decide ((opn s a).2.1 = 0)) u) (dkW (decide ((opn s a).2.1 = 0)) u (secB 1 a 0 []) ws) (opn s a).2.2 ∧ FrT B tP w w' := by
  obtain ⟨va, vt, tv, vw, h⟩ := h
  have hg := h.good
  have hcn := h.dcnt
  have hbd := cnt_bound hg
  simp only at hcn
  have Hc := hide (ledOpen_any B p ⟨u, vw, ws⟩ s a w ⟨va, vt, tv, h⟩)
  have hor := opn_cnt hg a
  obtain ⟨⟨x, y, s'⟩, hr⟩ : ∃ r, opn s a = r := ⟨_, rfl⟩
  rw [hr] at Hc hor ⊢
  simp only at Hc hor ⊢
  clear h hr hg
  rcases hor with ⟨rfl, h0, h1, h2⟩ | ⟨hy, rfl⟩
  · simp only [decide_true]
    have hn : AmtOk a := ⟨by omega, by omega⟩
    have hz : AmtOk 0 := ⟨by omega, by omega⟩
    have hlt : u < cnt s' := by omega
    have hu : u ≤ 95 := by omega
    go_enter Tryz.func66, Tryz.ntmps66
    go_wp2_with fail
    refine (unhide Hc).mono ?_
    rintro e w1 ⟨rfl, ⟨va1, vt1, tv1, k1⟩, k2⟩
    have HL := hide (lay_any B p u va1 vt1 vw ws 1 a 0 _ [] w1 k1.blk k1.lo k1.dsk k1.dlen hu (by omega) hn hz (LinesAt.nil w1) (by simp) (by simp))
    have K1 := hide k1
    have K2 := hide k2
    clear k1 k2 Hc
    go_wp2_with fail
    refine (unhide HL).mono ?_
    rintro e w2 ⟨rfl, ⟨vw2, j1, j2⟩, j3⟩
    have HF : Hid (LedW w2 B p (u + 1) (ws ++ [((u : Int), secB 1 a 0 []), (-1, ⟨#[]⟩)]) s' ∧ FrT B tP w w2) := ⟨⟨_, _, _, _, (unhide K1).laid hlt j1 j2 j3⟩, (unhide K2).trans (j3.mono (by simp [tP]))⟩
    clear j1 j2 j3 HL K1 K2
    go_wp2_with fail
    go_ret2
    exact ⟨rfl, (unhide HF).1, (unhide HF).2⟩
  · have hd : decide (y = 0) = false := by simpa using hy
    have hye : (y == 0) = false := by simpa using hy
    rw [hd]
    go_enter Tryz.func66, Tryz.ntmps66
    go_wp2_with fail
    refine (unhide Hc).mono ?_
    rintro e w1 ⟨rfl, ⟨va1, vt1, tv1, k1⟩, k2⟩
    have K1 := hide k1
    have K2 := hide k2
    clear k1 k2 Hc
    go_wp2_with fail
    go_ret2
    exact ⟨rfl, ⟨_, _, _, _, unhide K1⟩, unhide K2⟩

set_option maxRecDepth 100000 in
set_option maxHeartbeats 2000000 in
theorem dayCloseW_any (B p u : Nat) (ws : List Wr) (s : Bk) (a : Int) (w : World) (h : LedW w B p u ws s) :
    Calls Tryz.prog 67 #[.pointer (some ⟨p, 0, none⟩), .int .i64 a] w fun e w' => e = .returned (.int .i64 (cls s a).1) ∧ LedW w' B p (dkU (decide ((cls s a).1 = 0)) u) (dkW (decide ((cls s a).1 = 0)) u (secB 2 a 0 []) ws) (cls s a).2 ∧ FrT B tP w w' := by
  obtain ⟨va, vt, tv, vw, h⟩ := h
  have hg := h.good
  have hcn := h.dcnt
  have hbd := cnt_bound hg
  simp only at hcn
  have Hc := hide (ledClose_any B p ⟨u, vw, ws⟩ s a w ⟨va, vt, tv, h⟩)
  have hor := cls_cnt hg a
  obtain ⟨⟨y, s'⟩, hr⟩ : ∃ r, cls s a = r := ⟨_, rfl⟩
  rw [hr] at Hc hor ⊢
  simp only at Hc hor ⊢
  clear h hr hg
  rcases hor with ⟨rfl, h0, h1, h2⟩ | ⟨hy, rfl⟩
  · simp only [decide_true]
    have hn : AmtOk a := ⟨by omega, by omega⟩
    have hz : AmtOk 0 := ⟨by omega, by omega⟩
    have hlt : u < cnt s' := by omega
    have hu : u ≤ 95 := by omega
    go_enter Tryz.func67, Tryz.ntmps67
    go_wp2_with fail
    refine (unhide Hc).mono ?_
    rintro e w1 ⟨rfl, ⟨va1, vt1, tv1, k1⟩, k2⟩
    have HL := hide (lay_any B p u va1 vt1 vw ws 2 a 0 _ [] w1 k1.blk k1.lo k1.dsk k1.dlen hu (by omega) hn hz (LinesAt.nil w1) (by simp) (by simp))
    have K1 := hide k1
    have K2 := hide k2
    clear k1 k2 Hc
    go_wp2_with fail
    refine (unhide HL).mono ?_
    rintro e w2 ⟨rfl, ⟨vw2, j1, j2⟩, j3⟩
    have HF : Hid (LedW w2 B p (u + 1) (ws ++ [((u : Int), secB 2 a 0 []), (-1, ⟨#[]⟩)]) s' ∧ FrT B tP w w2) := ⟨⟨_, _, _, _, (unhide K1).laid hlt j1 j2 j3⟩, (unhide K2).trans (j3.mono (by simp [tP]))⟩
    clear j1 j2 j3 HL K1 K2
    go_wp2_with fail
    go_ret
    exact ⟨rfl, (unhide HF).1, (unhide HF).2⟩
  · have hd : decide (y = 0) = false := by simpa using hy
    have hye : (y == 0) = false := by simpa using hy
    rw [hd]
    go_enter Tryz.func67, Tryz.ntmps67
    go_wp2_with fail
    refine (unhide Hc).mono ?_
    rintro e w1 ⟨rfl, ⟨va1, vt1, tv1, k1⟩, k2⟩
    have K1 := hide k1
    have K2 := hide k2
    clear k1 k2 Hc
    go_wp2_with fail
    go_ret
    exact ⟨rfl, ⟨_, _, _, _, unhide K1⟩, unhide K2⟩

set_option maxRecDepth 100000 in
set_option maxHeartbeats 2000000 in
theorem dayPostN_any (B p u : Nat) (ws : List Wr) (s : Bk) (id day : Int) (v : Value) (ls : List Ln) (w : World) (va vt vw : Value) (tv : List (Tn × Value)) (h : LedAt w B p va vt tv ⟨u, vw, ws⟩ s) (hl : LinesAt w v ls) (hty : ∀ k, v.ownBlock = some k → Tg w k 89) :
    Calls Tryz.prog 69 #[.pointer (some ⟨p, 0, none⟩), .int .i64 id, .int .i64 day, v] w fun e w' => e = .returned (.int .i64 (pst s id day ls).1) ∧ (∃ vw', LedN w tv w' B p ⟨dkU (isN s id day ls) u, vw', dkW (isN s id day ls) u (secB 3 id day ls) ws⟩ (pst s id day ls).2) ∧ FrT B tP w w' := by
  have hg := h.good
  have hcn := h.dcnt
  have hbd := cnt_bound hg
  have hfew := hg.few
  simp only at hcn
  have Hc := hide (ledPost_any B p s id day v ls w va vt tv ⟨u, vw, ws⟩ h hl)
  have hor := pst_cnt hg id day ls
  obtain ⟨ao, cap, rfl⟩ := hl.form
  have Hl := hide hl
  have Hty := hide hty
  obtain ⟨⟨y, s'⟩, hr⟩ : ∃ r, pst s id day ls = r := ⟨_, rfl⟩
  rw [hr] at Hc hor ⊢
  obtain ⟨nw, hnw⟩ : ∃ r, isN s id day ls = r := ⟨_, rfl⟩
  rw [hnw] at Hc hor ⊢
  simp only at Hc hor ⊢
  clear h hr hg hl hty hnw
  rcases hor with ⟨rfl, rfl, h0, h1, h2, h3, h4, h5, h6, h7⟩ | ⟨rfl, rfl⟩
  · have hn : AmtOk id := ⟨by omega, by omega⟩
    have hz : AmtOk day := ⟨by omega, by omega⟩
    have hlt : u < cnt s' := by omega
    have hu : u ≤ 95 := by omega
    have Hls : Hid (∀ l ∈ ls, AmtOk l.1 ∧ AmtOk l.2) := fun l hl => by have := h5 l hl; exact ⟨⟨by omega, by omega⟩, ⟨by omega, by omega⟩⟩
    clear h5 h6
    go_enter Tryz.func69, Tryz.ntmps69
    go_wp2_with fail
    refine (unhide Hc).mono ?_
    rintro e w1 ⟨rfl, ⟨va1, vt1, tv1, k1, k3⟩, k2⟩
    have HL := hide (lay_any B p u va1 vt1 vw ws 3 id day _ ls w1 k1.blk k1.lo k1.dsk k1.dlen hu (by omega) hn hz ((unhide Hl).frTy k2 (unhide Hty) (by decide)) h4 (unhide Hls))
    have K1 := hide k1
    have K2 := hide k2
    have K3 := hide k3
    clear k1 k2 k3 Hc
    go_wp2_with fail
    refine (unhide HL).mono ?_
    rintro e w2 ⟨rfl, ⟨vw2, j1, j2⟩, j3⟩
    have HF : Hid ((∃ vw', LedN w tv w2 B p ⟨u + 1, vw', ws ++ [((u : Int), secB 3 id day ls), (-1, ⟨#[]⟩)]⟩ s') ∧ FrT B tP w w2) := ⟨⟨_, _, _, _, (unhide K1).laid hlt j1 j2 j3, unhide K3⟩, (unhide K2).trans (j3.mono (by simp [tP]))⟩
    clear j1 j2 j3 HL K1 K2 K3
    go_wp2_with fail
    go_ret
    exact ⟨rfl, (unhide HF).1, (unhide HF).2⟩
  · go_enter Tryz.func69, Tryz.ntmps69
    go_wp2_with fail
    refine (unhide Hc).mono ?_
    rintro e w1 ⟨rfl, k1, k2⟩
    have K1 := hide k1
    have K2 := hide k2
    clear k1 k2 Hc
    go_wp2_with fail
    go_ret
    exact ⟨rfl, ⟨_, unhide K1⟩, unhide K2⟩

theorem dayOpen_any (B p : Nat) (s : Bk) (a : Int) (w : World) (h : Led w B p s) :
    Calls Tryz.prog 66 #[.pointer (some ⟨p, 0, none⟩), .int .i64 a] w fun e w' => e = .returned (.tuple #[.int .i64 (opn s a).1, .int .i64 (opn s a).2.1]) ∧ Led w' B p (opn s a).2.2 ∧ FrT B tP w w' := by
  obtain ⟨u, ws, h⟩ := h.some
  exact (dayOpenW_any B p u ws s a w h).mono fun e w' ⟨h1, h2, h3⟩ => ⟨h1, h2.led, h3⟩
theorem dayClose_any (B p : Nat) (s : Bk) (a : Int) (w : World) (h : Led w B p s) :
    Calls Tryz.prog 67 #[.pointer (some ⟨p, 0, none⟩), .int .i64 a] w fun e w' => e = .returned (.int .i64 (cls s a).1) ∧ Led w' B p (cls s a).2 ∧ FrT B tP w w' := by
  obtain ⟨u, ws, h⟩ := h.some
  exact (dayCloseW_any B p u ws s a w h).mono fun e w' ⟨h1, h2, h3⟩ => ⟨h1, h2.led, h3⟩
theorem dayPost_any (B p : Nat) (s : Bk) (id day : Int) (v : Value) (ls : List Ln) (w : World) (va vt : Value) (tv : List (Tn × Value)) (d : Dk) (h : LedAt w B p va vt tv d s) (hl : LinesAt w v ls) (hty : ∀ k, v.ownBlock = some k → Tg w k 89) :
    Calls Tryz.prog 69 #[.pointer (some ⟨p, 0, none⟩), .int .i64 id, .int .i64 day, v] w fun e w' => e = .returned (.int .i64 (pst s id day ls).1) ∧ (∃ d', LedN w tv w' B p d' (pst s id day ls).2) ∧ FrT B tP w w' :=
  (dayPostN_any B p d.u d.ws s id day v ls w va vt d.vw tv h hl hty).mono fun _ _ ⟨h1, ⟨_, h2⟩, h3⟩ => ⟨h1, ⟨_, h2⟩, h3⟩
theorem dayPostW_any (B p u : Nat) (ws : List Wr) (s : Bk) (id day : Int) (v : Value) (ls : List Ln) (w : World) (h : LedW w B p u ws s) (hl : LinesAt w v ls) (hty : ∀ k, v.ownBlock = some k → Tg w k 89) :
    Calls Tryz.prog 69 #[.pointer (some ⟨p, 0, none⟩), .int .i64 id, .int .i64 day, v] w fun e w' => e = .returned (.int .i64 (pst s id day ls).1) ∧ LedW w' B p (dkU (isN s id day ls) u) (dkW (isN s id day ls) u (secB 3 id day ls) ws) (pst s id day ls).2 ∧ FrT B tP w w' := by
  obtain ⟨va, vt, tv, vw, h⟩ := h
  exact (dayPostN_any B p u ws s id day v ls w va vt vw tv h hl hty).mono fun _ _ ⟨h1, ⟨_, _, _, _, h2, _⟩, h3⟩ => ⟨h1, ⟨_, _, _, _, h2⟩, h3⟩

end Go.Proofs.YtdchbenfccofpaaGreatDoor
namespace Go.Proofs.YtdchbenfccofpaaGreatDoor
open Go.RowKit Db

/-- What a step answers, and the book behind it. -/
def clE (s : Bk) (kd a b : Int) (ls : List Ln) : Int × Int × Bk :=
  if kd = 1 then opn s a else if kd = 2 then (0, (cls s a).1, (cls s a).2) else if kd = 3 then (0, (pst s a b ls).1, (pst s a b ls).2) else (0, 0, s)

/-- Whether it leaves a record on the disk, and which. -/
def clY (s : Bk) (kd a b : Int) (ls : List Ln) : Bool := if kd = 1 then decide ((opn s a).2.1 = 0) else if kd = 2 then decide ((cls s a).1 = 0) else if kd = 3 then isN s a b ls else false
def clX (kd a b : Int) (ls : List Ln) : ByteArray := if kd = 1 then secB 1 a 0 [] else if kd = 2 then secB 2 a 0 [] else secB 3 a b ls

set_option maxRecDepth 100000 in
set_option maxHeartbeats 4000000 in
theorem calledW_any (B p u : Nat) (ws : List Wr) (s : Bk) (kd a b : Int) (ao : Option Addr) (cap : Nat) (ls : List Ln) (w : World) (h : LedW w B p u ws s) (hl : LinesAt w (.slice ao ls.length cap) ls) (hn : ls.length ≤ 8796093022000) :
    Calls Tryz.prog 36 #[.pointer (some ⟨p, 0, none⟩), .agg #[.int .i64 kd, .int .i64 a, .int .i64 b, .slice ao ls.length cap]] w fun e w' => e = .returned (.tuple #[.int .i64 (clE s kd a b ls).1, .int .i64 (clE s kd a b ls).2.1]) ∧ LedW w' B p (dkU (clY s kd a b ls) u) (dkW (clY s kd a b ls) u (clX kd a b ls) ws) (clE s kd a b ls).2.2 ∧ FrT B tP w w' := by
  obtain ⟨bx, hbx⟩ : ∃ bx, w.heap.size = bx := ⟨_, rfl⟩
  obtain ⟨W, hW⟩ : ∃ W, w.alloc (.cells #[.int .i64 kd, .int .i64 a, .int .i64 b, .slice ao ls.length cap] 76) = W := ⟨_, rfl⟩
  have HX : Hid (Blk W bx #[.int .i64 kd, .int .i64 a, .int .i64 b, .slice ao ls.length cap] 76) := by rw [← hW, ← hbx]; exact Blk.new _ _ _
  have Hb0 : Hid (Below w.heap.size w W) := by rw [← hW]; exact (Below.refl _ _).alloc (Nat.le_refl _) _
  have H0 : Hid (LedW W B p u ws s) := by
    obtain ⟨va, vt, tv, vw, h1⟩ := h
    exact ⟨_, _, _, _, h1.kept (unhide Hb0)⟩
  have Hl0 := hide (hl.kept (unhide Hb0))
  have x0 := (unhide HX).cell 0
  have x1 := (unhide HX).cell 1
  have x3 := (unhide HX).cell 3
  simp only [List.getElem?_toArray, List.getElem?_cons_zero, List.getElem?_cons_succ] at x0 x1 x3
  clear h hl
  by_cases h1 : kd = 1
  · subst h1
    have Hop := hide (dayOpenW_any B p u ws s a W (unhide H0))
    have hcl : clE s 1 a b ls = opn s a := rfl
    have hyl : clY s 1 a b ls = decide ((opn s a).2.1 = 0) := rfl
    have hxl : clX 1 a b ls = secB 1 a 0 [] := rfl
    rw [hcl, hyl, hxl]
    clear hcl hyl hxl
    obtain ⟨⟨x, y, s'⟩, hr⟩ : ∃ r, opn s a = r := ⟨_, rfl⟩
    rw [hr] at Hop ⊢
    simp only at Hop ⊢
    obtain ⟨u', hu'⟩ : ∃ u', dkU (decide (y = 0)) u = u' := ⟨_, rfl⟩
    obtain ⟨ws', hws'⟩ : ∃ ws', dkW (decide (y = 0)) u (secB 1 a 0 []) ws = ws' := ⟨_, rfl⟩
    rw [hu', hws'] at Hop ⊢
    clear hr hu' hws'
    go_enter Tryz.func36, Tryz.ntmps36
    go_wp2_with fail
    try rw [hW]
    refine (unhide Hop).mono ?_
    rintro e w1 ⟨rfl, k1, k2⟩
    have HF : Hid (LedW w1 B p u' ws' s' ∧ FrT B tP w w1) := ⟨k1, (FrT.of_below (unhide Hb0)).trans k2⟩
    clear k1 k2
    go_wp2_with fail
    go_ret2
    exact ⟨rfl, (unhide HF).1, (unhide HF).2⟩
  by_cases h2 : kd = 2
  · subst h2
    have Hop := hide (dayCloseW_any B p u ws s a W (unhide H0))
    have hcl : clE s 2 a b ls = (0, (cls s a).1, (cls s a).2) := rfl
    have hyl : clY s 2 a b ls = decide ((cls s a).1 = 0) := rfl
    have hxl : clX 2 a b ls = secB 2 a 0 [] := rfl
    rw [hcl, hyl, hxl]
    clear hcl hyl hxl
    obtain ⟨⟨y, s'⟩, hr⟩ : ∃ r, cls s a = r := ⟨_, rfl⟩
    rw [hr] at Hop ⊢
    simp only at Hop ⊢
    obtain ⟨u', hu'⟩ : ∃ u', dkU (decide (y = 0)) u = u' := ⟨_, rfl⟩
    obtain ⟨ws', hws'⟩ : ∃ ws', dkW (decide (y = 0)) u (secB 2 a 0 []) ws = ws' := ⟨_, rfl⟩
    rw [hu', hws'] at Hop ⊢
    clear hr h1 hu' hws'
    go_enter Tryz.func36, Tryz.ntmps36
    go_wp2_with fail
    try rw [hW]
    refine (unhide Hop).mono ?_
    rintro e w1 ⟨rfl, k1, k2⟩
    have HF : Hid (LedW w1 B p u' ws' s' ∧ FrT B tP w w1) := ⟨k1, (FrT.of_below (unhide Hb0)).trans k2⟩
    clear k1 k2
    go_wp2_with fail
    go_ret2
    exact ⟨rfl, (unhide HF).1, (unhide HF).2⟩
  by_cases h3 : kd = 3
  · subst h3
    have Hop : Hid (∀ (wx : World) (v : Value), Below W.heap.size W wx → LinesAt wx v ls → (∀ k, v.ownBlock = some k → Tg wx k 89) → Calls Tryz.prog 69 #[.pointer (some ⟨p, 0, none⟩), .int .i64 a, .int .i64 b, v] wx fun e w' => e = .returned (.int .i64 (pst s a b ls).1) ∧ LedW w' B p (dkU (isN s a b ls) u) (dkW (isN s a b ls) u (secB 3 a b ls) ws) (pst s a b ls).2 ∧ FrT B tP W w') := by
      intro wx v hb hl hty
      obtain ⟨va, vt, tv, vw, h1⟩ := unhide H0
      refine (dayPostW_any B p u ws s a b v ls wx ⟨_, _, _, _, h1.kept hb⟩ hl hty).mono ?_
      rintro e w1 ⟨rfl, k1, k2⟩
      exact ⟨rfl, k1, (FrT.of_below hb).trans k2⟩
    have hcl : clE s 3 a b ls = (0, (pst s a b ls).1, (pst s a b ls).2) := rfl
    have hyl : clY s 3 a b ls = isN s a b ls := rfl
    have hxl : clX 3 a b ls = secB 3 a b ls := rfl
    rw [hcl, hyl, hxl]
    clear hcl hyl hxl
    obtain ⟨⟨y, s'⟩, hr⟩ : ∃ r, pst s a b ls = r := ⟨_, rfl⟩
    rw [hr] at Hop ⊢
    simp only at Hop ⊢
    obtain ⟨u', hu'⟩ : ∃ u', dkU (isN s a b ls) u = u' := ⟨_, rfl⟩
    obtain ⟨ws', hws'⟩ : ∃ ws', dkW (isN s a b ls) u (secB 3 a b ls) ws = ws' := ⟨_, rfl⟩
    rw [hu', hws'] at Hop ⊢
    clear hr h1 h2 hu' hws'
    go_enter Tryz.func36, Tryz.ntmps36
    go_wp2_with fail
    try rw [hW]
    try rw [hbx]
    clear hW hbx
    refine (copied_any _ ls _ (unhide Hl0) hn).mono ?_
    rintro e w1 ⟨rfl, k1, k2⟩
    have y1 := ((unhide HX).kept k2).cell 1
    have y2 := ((unhide HX).kept k2).cell 2
    simp only [List.getElem?_toArray, List.getElem?_cons_zero, List.getElem?_cons_succ] at y1 y2
    have Hp := hide (unhide Hop w1 _ k2 (LinesAt.of_blk (cap := ls.length) k1) (fun k hk => by simp only [Value.ownBlock, Option.some.injEq] at hk; subst hk; exact k1.tg))
    clear k1 k2 x0 x1 x3
    go_wp2_with fail
    refine (unhide Hp).mono ?_
    rintro e w2 ⟨rfl, k1, k2⟩
    have HF : Hid (LedW w2 B p u' ws' s' ∧ FrT B tP w w2) := ⟨k1, (FrT.of_below (unhide Hb0)).trans k2⟩
    clear k1 k2
    go_wp2_with fail
    go_ret2
    exact ⟨rfl, (unhide HF).1, (unhide HF).2⟩
  have hcl : clE s kd a b ls = (0, 0, s) := by unfold clE; rw [if_neg h1, if_neg h2, if_neg h3]
  have hyl : clY s kd a b ls = false := by unfold clY; rw [if_neg h1, if_neg h2, if_neg h3]
  rw [hcl, hyl]
  have n1 : (kd == 1) = false := by simpa using h1
  have n2 : (kd == 2) = false := by simpa using h2
  have n3 : (kd == 3) = false := by simpa using h3
  clear hcl hyl h1 h2 h3
  go_enter Tryz.func36, Tryz.ntmps36
  go_wp2_with fail
  go_ret2
  exact ⟨rfl, unhide H0, FrT.of_below (unhide Hb0)⟩

theorem called_any (B p : Nat) (s : Bk) (kd a b : Int) (ao : Option Addr) (cap : Nat) (ls : List Ln) (w : World) (h : Led w B p s) (hl : LinesAt w (.slice ao ls.length cap) ls) (hn : ls.length ≤ 8796093022000) :
    Calls Tryz.prog 36 #[.pointer (some ⟨p, 0, none⟩), .agg #[.int .i64 kd, .int .i64 a, .int .i64 b, .slice ao ls.length cap]] w fun e w' => e = .returned (.tuple #[.int .i64 (clE s kd a b ls).1, .int .i64 (clE s kd a b ls).2.1]) ∧ Led w' B p (clE s kd a b ls).2.2 ∧ FrT B tP w w' := by
  obtain ⟨u, ws, h⟩ := h.some
  exact (calledW_any B p u ws s kd a b ao cap ls w h hl hn).mono fun _ _ ⟨h1, h2, h3⟩ => ⟨h1, h2.led, h3⟩

end Go.Proofs.YtdchbenfccofpaaGreatDoor
namespace Go.Proofs.YtdchbenfccofpaaGreatDoor
open Go.RowKit Db

theorem RecAt.shut {w : World} {B p g cap k : Nat} {vp vt : Value} {tv : List (Tn × Value)} {s : Bk} {c : Ac} (h : RecAt w B p vp (.slice (some ⟨g, 0, none⟩) s.acs.length cap) vt tv s) (hc : s.acs[k]? = some c) (hg : BkGood { s with acs := s.acs.set k (c.1, true) }) :
    RecAt (w.setCell ⟨g, k, none⟩ (.bool true)) B p vp (.slice (some ⟨g, 0, none⟩) s.acs.length cap) vt tv { s with acs := s.acs.set k (c.1, true) } ∧ FrT B tK w (w.setCell ⟨g, k, none⟩ (.bool true)) := by
  have ht := ownsRow_tg h.clo g rfl
  have f1 : FrT B [4] w (w.setCell ⟨g, k, none⟩ (.bool true)) := (FrT.refl _ _ w).setCell (T := 4) (by simp) ht.2 ht.1 _
  refine ⟨⟨h.blk.frT f1 (by decide), h.lo, ?_, ?_, h.txs.frT f1 (by decide) (by decide), h.jr, hg⟩, f1.mono (by simp [tK])⟩
  · simp only [List.length_set]
    rw [map_shut hc]
    exact ownsRow_frT h.par f1 (by decide)
  · simp only [List.length_set, List.map_set]
    exact own_set h.clo _
theorem RecAt.drewN {w : World} {B p : Nat} {vp vc vt : Value} {tv : List (Tn × Value)} {s : Bk} (h : RecAt w B p vp vc vt tv s) (n : Nat) : RecAt (w.drewN n) B p vp vc vt tv s := h.kept ((Below.refl _ _).drewN n)

set_option maxRecDepth 100000 in
set_option maxHeartbeats 4000000 in
theorem yes_close (B q : Nat) (s : Bk) (k : Nat) (b n : Int) (ao : Option Addr) (m cap : Nat) (c : Ac) (w : World) (h : Rec w B q s) (hc : s.acs[k]? = some c) (h1 : 1 ≤ k) (hcc : c.2 = false) (hg : BkGood { s with acs := s.acs.set k (c.1, true) }) :
    Calls Tryz.prog 38 #[.pointer (some ⟨q, 0, none⟩), .agg #[.int .i64 2, .int .i64 (k : Int), .int .i64 b, .slice ao m cap], .int .i64 n] w fun e w' => e = .returned (.bool true) ∧ Rec w' B q { s with acs := s.acs.set k (c.1, true) } ∧ FrT B tK w w' := by
  obtain ⟨bx, hbx⟩ : ∃ bx, w.heap.size = bx := ⟨_, rfl⟩
  obtain ⟨W, hW⟩ : ∃ W, w.alloc (.cells #[.int .i64 2, .int .i64 (k : Int), .int .i64 b, .slice ao m cap] 76) = W := ⟨_, rfl⟩
  have HX : Hid (Blk W bx #[.int .i64 2, .int .i64 (k : Int), .int .i64 b, .slice ao m cap] 76) := by rw [← hW, ← hbx]; exact Blk.new _ _ _
  have Hb0 : Hid (Below w.heap.size w W) := by rw [← hW]; exact (Below.refl _ _).alloc (Nat.le_refl _) _
  obtain ⟨vp, vc, vt, tv, h⟩ := h
  obtain ⟨g, capp, rfl, hg1, hg1'⟩ := ownsRow_some h.par h.good.one
  obtain ⟨g2, cap2, rfl, hg2, hg2'⟩ := ownsRow_some h.clo h.good.one
  have hk : k < s.acs.length := (List.getElem?_eq_some_iff.1 hc).1
  have hfew := h.good.few
  have H0 := hide (h.kept (unhide Hb0))
  have d := ownsRow_cell (unhide H0).clo (j := k) (u := .bool false) (by rw [List.getElem?_map, hc, ← hcc]; rfl)
  have zf := ownsRow_frozen (unhide H0).clo k
  have x0 := (unhide HX).cell 0
  have x1 := (unhide HX).cell 1
  have c0 := (unhide H0).blk.cell 0
  have c1 := (unhide H0).blk.cell 1
  simp only [List.getElem?_toArray, List.getElem?_cons_zero, List.getElem?_cons_succ] at x0 x1 c0 c1
  have Hfin : Hid (∀ n', RecAt ((W.drewN n').setCell ⟨g2, k, none⟩ (.bool true)) B q _ _ _ tv { s with acs := s.acs.set k (c.1, true) } ∧ FrT B tK (W.drewN n') ((W.drewN n').setCell ⟨g2, k, none⟩ (.bool true))) := fun n' => ((unhide H0).drewN n').shut hc hg
  have l1 : ¬ ((k : Int) < 1) := by omega
  have l2 : ¬ ((s.acs.length : Int) ≤ (k : Int)) := by omega
  have l3 : (k : Int) < (s.acs.length : Int) := by omega
  have l4 : (0 : Int) ≤ (k : Int) := by omega
  clear h hc hg
  go_enter Tryz.func38, Tryz.ntmps38
  go_upto_region 8 with fail
  try rw [hW]
  try rw [hbx]
  clear hW hbx
  go_quiet (fail)
  go_upto_region 10 with fail
  go_region
  all_goals
    go_wp2_with fail
    go_ret
    have hf := unhide Hfin
    refine ⟨rfl, ⟨_, _, _, _, (hf _).1⟩, ?_⟩
    exact (((FrT.of_below (unhide Hb0)).drewN _).trans (hf _).2)

end Go.Proofs.YtdchbenfccofpaaGreatDoor
namespace Go.Proofs.YtdchbenfccofpaaGreatDoor
open Go.RowKit Db

/-- One account more. -/
theorem RecAt.more {w w5 w6 : World} {B p : Nat} {vp vp' vc vc' vt : Value} {tv : List (Tn × Value)} {s s' : Bk} (h : RecAt w B p vp vc vt tv s) (f1 : FrT B [3] w w5) (o2 : Obj) (hblk : Blk w5 p #[vp, vc, vt] 63)
    (hown : w5.ownsRow B 3 1 vp' s'.acs.length (s'.acs.map fun a => .int .i64 a.1))
    (hgr2 : ((w5.setCell ⟨p, 0, none⟩ vp').alloc o2).grownBy w6 vc.ownBlock) (hblk2 : Blk w6 p #[vp', vc, vt] 63)
    (hown2 : w6.ownsRow B 4 1 vc' s'.acs.length (s'.acs.map fun a => .bool a.2)) (hs : s'.txs = s.txs) (hg : BkGood s') :
    RecAt (w6.setCell ⟨p, 1, none⟩ vc') B p vp' vc' vt tv s' ∧ FrT B tK w (w6.setCell ⟨p, 1, none⟩ vc') := by
  have f2 : FrT B [63] w5 (w5.setCell ⟨p, 0, none⟩ vp') := (FrT.refl _ _ w5).setCell (T := 63) (by simp) hblk.tg h.lo _
  have hc : (w5.setCell ⟨p, 0, none⟩ vp').ownsRow B 4 1 vc s.acs.length (s.acs.map fun a => .bool a.2) := ownsRow_frT (ownsRow_frT h.clo f1 (by decide)) f2 (by decide)
  have f3 : FrT B [4] (w5.setCell ⟨p, 0, none⟩ vp') w6 := ((FrT.refl _ _ _).alloc o2).grown hgr2 (T := 4) (by simp) (fun k hk => ⟨(ownsRow_tg hc k hk).1, tg_alloc (ownsRow_tg hc k hk).2 o2⟩)
  have f4 : FrT B [63] w6 (w6.setCell ⟨p, 1, none⟩ vc') := (FrT.refl _ _ w6).setCell (T := 63) (by simp) hblk2.tg h.lo _
  refine ⟨⟨?_, h.lo, ownsRow_frT (ownsRow_frT (ownsRow_frT hown f2 (by decide)) f3 (by decide)) f4 (by decide), ownsRow_frT hown2 f4 (by decide), (((h.txs.frT f1 (by decide) (by decide)).frT f2 (by decide) (by decide)).frT f3 (by decide) (by decide)).frT f4 (by decide) (by decide), by rw [hs]; exact h.jr, hg⟩, ?_⟩
  · have := hblk2.set 1 vc'
    simpa using this
  · exact (((f1.mono (by simp [tK])).trans (f2.mono (by simp [tK]))).trans (f3.mono (by simp [tK]))).trans (f4.mono (by simp [tK]))

set_option maxRecDepth 100000 in
set_option maxHeartbeats 4000000 in
theorem yes_open (B q : Nat) (s : Bk) (k : Nat) (b : Int) (ao : Option Addr) (m cap : Nat) (c : Ac) (w : World) (h : Rec w B q s) (hc : s.acs[k]? = some c) (hcc : c.2 = false) (h16 : s.acs.length < 16) (hg : BkGood { s with acs := s.acs ++ [((k : Int), false)] }) :
    Calls Tryz.prog 38 #[.pointer (some ⟨q, 0, none⟩), .agg #[.int .i64 1, .int .i64 (k : Int), .int .i64 b, .slice ao m cap], .int .i64 (s.acs.length : Int)] w fun e w' => e = .returned (.bool true) ∧ Rec w' B q { s with acs := s.acs ++ [((k : Int), false)] } ∧ FrT B tK w w' := by
  obtain ⟨ii, hi, hz0, hz1, hz2⟩ := info_parts infoInt
  obtain ⟨jj, hj, hy0, hy1, hy2⟩ := info_parts infoBool
  obtain ⟨bx, hbx⟩ : ∃ bx, w.heap.size = bx := ⟨_, rfl⟩
  obtain ⟨W, hW⟩ : ∃ W, w.alloc (.cells #[.int .i64 1, .int .i64 (k : Int), .int .i64 b, .slice ao m cap] 76) = W := ⟨_, rfl⟩
  have HX : Hid (Blk W bx #[.int .i64 1, .int .i64 (k : Int), .int .i64 b, .slice ao m cap] 76) := by rw [← hW, ← hbx]; exact Blk.new _ _ _
  have Hb0 : Hid (Below w.heap.size w W) := by rw [← hW]; exact (Below.refl _ _).alloc (Nat.le_refl _) _
  obtain ⟨vp, vc, vt, tv, h⟩ := h
  obtain ⟨g, capp, rfl, hg1, hg1'⟩ := ownsRow_some h.par h.good.one
  obtain ⟨g2, cap2, rfl, hg2, hg2'⟩ := ownsRow_some h.clo h.good.one
  have hk : k < s.acs.length := (List.getElem?_eq_some_iff.1 hc).1
  have H0 := hide (h.kept (unhide Hb0))
  have Hgood := hide hg
  have d := ownsRow_cell (unhide H0).clo (j := k) (u := .bool false) (by rw [List.getElem?_map, hc, ← hcc]; rfl)
  have x0 := (unhide HX).cell 0
  have x1 := (unhide HX).cell 1
  have c0 := (unhide H0).blk.cell 0
  have c1 := (unhide H0).blk.cell 1
  simp only [List.getElem?_toArray, List.getElem?_cons_zero, List.getElem?_cons_succ] at x0 x1 c0 c1
  have l1 : ¬ ((k : Int) < 0) := by omega
  have l2 : ¬ ((s.acs.length : Int) ≤ (k : Int)) := by omega
  have l3 : (k : Int) < (s.acs.length : Int) := by omega
  have l4 : (0 : Int) ≤ (k : Int) := by omega
  have l5 : ((s.acs.length : Int) != (s.acs.length : Int)) = false := by simp
  have HBw := hide (show B ≤ W.heap.size by have h1 := (unhide H0).lo; have h2 := (unhide H0).blk.lt; omega)
  clear h hc hg
  go_enter Tryz.func38, Tryz.ntmps38
  go_upto_region 3 with fail
  try rw [hW]
  try rw [hbx]
  clear hW hbx
  go_quiet (fail)
  obtain ⟨W1, hW1⟩ : ∃ W1, W.drewN nq = W1 := ⟨_, rfl⟩
  have H1 : Hid (RecAt W1 B q (.slice (some ⟨g, 0, none⟩) s.acs.length capp) (.slice (some ⟨g2, 0, none⟩) s.acs.length cap2) vt tv s) := by rw [← hW1]; exact (unhide H0).drewN nq
  have HF1 : Hid (FrT B tK w W1) := by rw [← hW1]; exact (FrT.of_below (unhide Hb0)).drewN _
  have HX1 := hide ((unhide HX).kept ((Below.refl _ _).drewN nq))
  rw [hW1] at HX1 ⊢
  have HBw1 : B ≤ W1.heap.size := by rw [← hW1]; exact unhide HBw
  clear hW1 x0 x1 c0 c1 d H0
  have x1 := (unhide HX1).cell 1
  have lx := (unhide HX1).lt
  have c0 := (unhide H1).blk.cell 0
  have z0 := (unhide H1).blk.frozen 0
  have lq := (unhide H1).blk.lt
  simp only [List.getElem?_toArray, List.getElem?_cons_zero, List.getElem?_cons_succ] at x1 c0
  have Hnb : Hid (Blk (W1.alloc (.cells #[.int .i64 (k : Int)] 3)) W1.heap.size #[.int .i64 (k : Int)] 3) := Blk.new _ _ _
  have hne1 : W1.heap.size ≠ q := by omega
  have hne2 : W1.heap.size ≠ bx := by omega
  go_upto_region 5 with fail
  go_region_law (refine step_append_lies _ rfl (.tmp 53) (.tmp 56) 28 rfl B 3 ii (.int .i64 0) 1 8 Tryz.underlying28 hi hz0 hz1 hz2 rfl (by decide) (.slice (some ⟨g, 0, none⟩) s.acs.length capp) s.acs.length _ (by simp [Act.eval]) (by first | exact ((unhide H1).par.alloc _).drew | exact ((unhide H1).par.alloc _)) ⟨W1.heap.size, 0, none⟩ 1 1 [.int .i64 (k : Int)] (by simp [Act.eval]) rfl (World.news_of_block (by exact unhide Hnb)) (fun x hx => by simp at hx; subst hx; rfl) (by decide) (by unfold maxLen; omega) (by omega) (by simp <;> omega) (W1.heap.size + 1) (by simp) ?_; intro gf cf w5 hown5 hgr5 hat5 hlt5; have hblk5 := Blk.grown (cs := #[.slice (some ⟨g, 0, none⟩) s.acs.length capp, .slice (some ⟨g2, 0, none⟩) s.acs.length cap2, vt]) (T := 63) (b := q) (by exact ((unhide H1).blk.alloc _)) hgr5 (blk_own_ne (unhide H1).blk (unhide H1).par (by decide)); have c5 := hblk5.cell 0; have z5 := hblk5.frozen 0; have e5 := hblk5.cell 1; have y5 := hblk5.frozen 1; have l5 := hblk5.lt; simp only [List.getElem?_toArray, List.getElem?_cons_zero, List.getElem?_cons_succ] at c5 e5; have Hblk5 := hide hblk5; have Hown5 := hide hown5; have Hgr5 := hide hgr5; clear hblk5 hown5 hgr5 hat5)
  all_goals
    have Hf1 : Hid (FrT B [3] W1 w5) := ((((FrT.refl _ _ W1).alloc _).drew).grown (unhide Hgr5) (T := 3) (by simp) (fun j hj => ⟨(ownsRow_tg (unhide H1).par j hj).1, tg_alloc (ownsRow_tg (unhide H1).par j hj).2 _⟩))
    have Hclo6 := hide (fun v => ownsRow_frT (ownsRow_frT (unhide H1).clo (unhide Hf1) (by decide)) ((FrT.refl B [63] w5).setCell (p := ⟨q, 0, none⟩) (T := 63) (by simp) (unhide Hblk5).tg (unhide H1).lo v) (by decide))
    have Hblk6 := hide (fun v => (unhide Hblk5).set 0 v)
    have hBq := (unhide H1).lo
    go_wp2_with (first
      | (at_builtin; refine wpList_append_own _ rfl (.tmp 64) (.tmp 65) 60 rfl B 4 jj (.bool false) 1 1 Tryz.underlying60 hj hy0 hy1 hy2 rfl (by decide) (.slice (some ⟨g2, 0, none⟩) s.acs.length cap2) s.acs.length _ rfl ((unhide Hclo6 _).alloc _) ⟨w5.heap.size, 0, none⟩ 1 1 [.bool false] rfl rfl (new1 _ _ (by simp [World.setCell]) _ _) (fun x hx => by simp at hx; subst hx; rfl) (by unfold maxLen; omega) (by omega) (by simp [World.setCell]; omega) ?_; intro vq' w6 hown6 hgr6 _; obtain ⟨gh, ch, rfl, hgh, hgh'⟩ := ownsRow_some hown6 (Nat.succ_pos _); have hblk6 := ((unhide Hblk6 _).alloc _).grown hgr6 (blk_own_ne (unhide Hblk6 vt) (unhide Hclo6 vt) (by decide)); simp only [List.setIfInBounds_toArray, List.set_cons_zero] at hblk6; have c6 := hblk6.cell 1; have z6 := hblk6.frozen 1; have l6 := hblk6.lt; have e6 := hblk6.cell 0; simp only [List.getElem?_toArray, List.getElem?_cons_zero, List.getElem?_cons_succ] at c6 e6; have Hbl6 := hide hblk6; have Hown6 := hide hown6; have Hgr6 := hide hgr6; clear hblk6 hown6 hgr6))
    go_ret
    have hfin := (unhide H1).more (unhide Hf1) _ (unhide Hblk5) (s' := { s with acs := s.acs ++ [((k : Int), false)] }) (by simpa using unhide Hown5) (unhide Hgr6) (unhide Hbl6) (by simpa using unhide Hown6) rfl (unhide Hgood)
    exact ⟨rfl, ⟨_, _, _, _, hfin.1⟩, (unhide HF1).trans hfin.2⟩

end Go.Proofs.YtdchbenfccofpaaGreatDoor
namespace Go.Proofs.YtdchbenfccofpaaGreatDoor
open Go.RowKit Db

set_option maxRecDepth 100000 in
set_option maxHeartbeats 4000000 in
theorem still_any (g : Nat) (v : Value) (ls : List Ln) (w : World) (hg : Blk w g (hcells ls) 89) (h : LinesAt w v ls) (hn : ls.length ≤ 8796093022000) :
    Calls Tryz.prog 122 #[.slice (some ⟨g, 0, none⟩) ls.length (ls.length + 2), v] w fun e w' => e = .returned (.bool true) ∧ ∃ n, w' = w.drewN n := by
  have HG := hide (LinesAt.of_handed (cap := ls.length + 2) hg)
  have q0 := (hg.cell (ls.length * 2)).trans (spare_get ls 77 0 0 77).1
  have q1 := (hg.cell (ls.length * 2 + 1)).trans (spare_get ls 77 0 0 77).2.1
  have q2 := (hg.cell ((ls.length + 1) * 2)).trans (spare_get ls 77 0 0 77).2.2.1
  have q3 := (hg.cell ((ls.length + 1) * 2 + 1)).trans (spare_get ls 77 0 0 77).2.2.2
  obtain ⟨ao, cap, rfl⟩ := h.form
  have H := hide h
  have hwr : IntKind.i64.wrap ((ls.length : Int) + 2) = (ls.length : Int) + 2 := by rw [IntKind.wrap_i64]; omega
  have hwr1 : IntKind.i64.wrap ((ls.length : Int) + 1) = (ls.length : Int) + 1 := by rw [IntKind.wrap_i64]; omega
  have tq1 : ((ls.length : Int) + 1).toNat = ls.length + 1 := by omega
  have tq2 : ((ls.length : Int) + 2).toNat = ls.length + 2 := by omega
  have lq1 : (0 : Int) ≤ (ls.length : Int) + 1 := by omega
  have lq4 : (0 : Int) ≤ (ls.length : Int) + 2 := by omega
  have lq2 : (ls.length : Int) + 1 < (ls.length : Int) + 2 := by omega
  have lq3 : (ls.length : Int) < (ls.length : Int) + 2 := by omega
  clear hg h
  go_enter Tryz.func122, Tryz.ntmps122
  go_wp2_with fail
  go_loopg [6] ls.length (fun m i wr => ∃ j n : Nat, j ≤ ls.length ∧ m = ls.length - j ∧ i = .int .i64 j ∧ wr = w.drewN n)
  case atStart => exact ⟨0, 0, by omega, rfl, rfl, rfl⟩
  case round =>
    obtain ⟨j, n, hj, rfl, rfl, rfl⟩ := hrel
    by_cases hlt : j < ls.length
    · obtain ⟨⟨la, lm⟩, hl⟩ : ∃ l, ls[j]? = some l := ⟨ls[j], List.getElem?_eq_getElem hlt⟩
      obtain ⟨_, b, off, e1, hbl, d1, d2⟩ := (unhide HG).line hl
      simp only [Option.some.injEq, Addr.mk.injEq, and_true] at e1
      obtain ⟨rfl, rfl⟩ := e1
      obtain ⟨_, b', off', rfl, hbl', f1, f2⟩ := (unhide H).line hl
      simp only [Nat.zero_add] at d1 d2 f1 f2
      clear hl
      go_upto_region 5 with fail
      go_quiet (fail)
      go_wp2_with fail
      go_roundg (ls.length - (j + 1))
      case measure => omega
      case rel => exact ⟨j + 1, _, by omega, rfl, by go_num, by first | rfl | exact (World.drewN_drewN _ _ _)⟩
    · obtain rfl : j = ls.length := by omega
      go_wp2_with fail
      go_ret
      exact ⟨rfl, n, rfl⟩

/-- Block g alone has turned. -/
theorem frm_set {w w' : World} {g i : Nat} (h : Frm w.heap.size (fun k => k = g) w w') (v : Value) : Frm w.heap.size (fun k => k = g) w (w'.setCell ⟨g, i, none⟩ v) := h.setCell (.inr rfl) v

set_option maxRecDepth 100000 in
set_option maxHeartbeats 4000000 in
theorem over_any (g n : Nat) (cs : Array Value) (w : World) (hg : Blk w g cs 89) (hs : cs.size = (n + 2) * 2) (hn : n ≤ 8796093022000) :
    Calls Tryz.prog 123 #[.slice (some ⟨g, 0, none⟩) n (n + 2)] w fun e w' => e = .returned (.tuple #[]) ∧ Frm w.heap.size (fun k => k = g) w w' := by
  have hwr : IntKind.i64.wrap ((n : Int) + 2) = (n : Int) + 2 := by rw [IntKind.wrap_i64]; omega
  have tq2 : ((n : Int) + 2).toNat = n + 2 := by omega
  have lq4 : (0 : Int) ≤ (n : Int) + 2 := by omega
  have Hg := hide hg
  have Hs := hide hs
  clear hg hs
  go_enter Tryz.func123, Tryz.ntmps123
  go_wp2_with fail
  go_loopg [3] (n + 2) (fun m i wr => ∃ j : Nat, ∃ ds : Array Value, j ≤ n + 2 ∧ m = n + 2 - j ∧ i = .int .i64 j ∧ Hid (Blk wr g ds 89) ∧ Hid (ds.size = (n + 2) * 2) ∧ Hid (Frm w.heap.size (fun k => k = g) w wr))
  case atStart => exact ⟨0, cs, by omega, rfl, rfl, unhide Hg, unhide Hs, Frm.refl _ _ _⟩
  case round =>
    obtain ⟨j, ds, hj, rfl, rfl, Hd, Hds, Hf⟩ := hrel
    by_cases hlt : j < n + 2
    · have hlt' : (j : Int) < (n : Int) + 2 := by omega
      have hd := unhide Hds
      have q0 := ((unhide Hd).cell (j * 2)).trans (Array.getElem?_eq_getElem (show j * 2 < ds.size by omega))
      have q1 := ((unhide Hd).cell (j * 2 + 1)).trans (Array.getElem?_eq_getElem (show j * 2 + 1 < ds.size by omega))
      have z0 := (unhide Hd).frozen (j * 2)
      have z1 := (unhide Hd).frozen (j * 2 + 1)
      obtain ⟨x0, hx0⟩ : ∃ x, ds[j * 2] = x := ⟨_, rfl⟩
      obtain ⟨x1, hx1⟩ : ∃ x, ds[j * 2 + 1] = x := ⟨_, rfl⟩
      rw [hx0] at q0
      rw [hx1] at q1
      clear hx0 hx1 hd
      go_wp2_with fail
      go_roundg (n + 2 - (j + 1))
      case measure => omega
      case rel => exact ⟨j + 1, _, by omega, rfl, by go_num, ((unhide Hd).set (j * 2) _).set (j * 2 + 1) _, by show _ = _; rw [Array.size_setIfInBounds, Array.size_setIfInBounds]; exact unhide Hds, frm_set (frm_set (unhide Hf) _) _⟩
    · obtain rfl : j = n + 2 := by omega
      go_wp2_with fail
      go_end0
      exact ⟨rfl, unhide Hf⟩

end Go.Proofs.YtdchbenfccofpaaGreatDoor
namespace Go.Proofs.YtdchbenfccofpaaGreatDoor
open Go.RowKit Db

/-- The program's book and the document's, both as s says. -/
structure PairAt (w : World) (B q p c : Nat) (s : Bk) : Prop where
  blk : Blk w q #[.pointer (some ⟨p, 0, none⟩), .pointer (some ⟨c, 0, none⟩), .slice none 0 0, .slice none 0 0] 30
  led : Led w B p s
  rfd : Rfd w B c s
theorem PairAt.kept {w w' : World} {B q p c : Nat} {s : Bk} (h : PairAt w B q p c s) (hb : Below w.heap.size w w') : PairAt w' B q p c s := by
  obtain ⟨h1, ⟨va, vt, tv, dk, h2⟩, ⟨vp, vc, vu, tu, h3⟩⟩ := h
  exact ⟨h1.kept hb, ⟨_, _, _, _, h2.kept hb⟩, ⟨_, _, _, _, h3.kept hb⟩⟩
theorem Rfd.frT {w w' : World} {B B' p : Nat} {s : Bk} (h : Rfd w B p s) (hf : FrT B' tP w w') : Rfd w' B p s := by
  obtain ⟨vp, vc, vu, tu, h3⟩ := h
  exact ⟨_, _, _, _, h3.frT hf (by decide) (by decide)⟩
theorem Led.frT {w w' : World} {B B' p : Nat} {s : Bk} (h : Led w B p s) (hf : FrT B' tR w w') : Led w' B p s := by
  obtain ⟨va, vt, tv, dk, h3⟩ := h
  exact ⟨_, _, _, _, h3.frT hf (by decide) (by decide)⟩
def tAll : List TypeId := tP ++ tR
theorem below_drew (w : World) : Below w.heap.size w w.drew := ⟨rfl, rfl, rfl, Nat.le_refl _, fun _ _ => rfl⟩
theorem Led.drew {w : World} {B p : Nat} {s : Bk} (h : Led w B p s) : Led w.drew B p s := by
  obtain ⟨va, vt, tv, dk, h⟩ := h; exact ⟨_, _, _, _, h.kept (below_drew w)⟩
theorem Rfd.drew {w : World} {B p : Nat} {s : Bk} (h : Rfd w B p s) : Rfd w.drew B p s := by
  obtain ⟨vp, vc, vu, tu, h⟩ := h; exact ⟨_, _, _, _, h.kept (below_drew w)⟩

set_option maxRecDepth 100000 in
set_option maxHeartbeats 4000000 in
theorem opened_any (B q p c : Nat) (s : Bk) (kd bk a b : Int) (ao : Option Addr) (n cap : Nat) (t : ByteArray) (w : World) (h : PairAt w B q p c s) :
    Calls Tryz.prog 81 #[.pointer (some ⟨q, 0, none⟩), .agg #[.int .i64 kd, .int .i64 bk, .int .i64 a, .int .i64 b, .slice ao n cap, .string t]] w fun e w' => e = .returned (.bool true) ∧ PairAt w' B q p c (opn s a).2.2 ∧ FrT B tAll w w' := by
  obtain ⟨bx, hbx⟩ : ∃ bx, w.heap.size = bx := ⟨_, rfl⟩
  obtain ⟨W, hW⟩ : ∃ W, w.alloc (.cells #[.int .i64 kd, .int .i64 bk, .int .i64 a, .int .i64 b, .slice ao n cap, .string t] 33) = W := ⟨_, rfl⟩
  have HX : Hid (Blk W bx #[.int .i64 kd, .int .i64 bk, .int .i64 a, .int .i64 b, .slice ao n cap, .string t] 33) := by rw [← hW, ← hbx]; exact Blk.new _ _ _
  have Hb0 : Hid (Below w.heap.size w W) := by rw [← hW]; exact (Below.refl _ _).alloc (Nat.le_refl _) _
  have H0 := hide (h.kept (unhide Hb0))
  have Hop := hide (fun (wx : World) (h : Led wx B p s) => dayOpen_any B p s a wx h)
  have Hor := hide (fun (wx : World) (h : Rfd wx B c s) => refOpen_any B c s a wx h)
  obtain ⟨⟨x, y, s'⟩, hr⟩ : ∃ r, opn s a = r := ⟨_, rfl⟩
  rw [hr] at Hop Hor ⊢
  simp only at Hop Hor ⊢
  have c0 := (unhide H0).blk.cell 0
  have x2 := (unhide HX).cell 2
  simp only [List.getElem?_toArray, List.getElem?_cons_zero, List.getElem?_cons_succ] at c0 x2
  clear h hr
  go_enter Tryz.func81, Tryz.ntmps81
  go_upto_region 1 with fail
  try rw [hW]
  try rw [hbx]
  clear hW hbx
  go_region_held3 (fun w' => w'.cell? ⟨q, 0, none⟩ = some (.pointer (some ⟨p, 0, none⟩)) ∧ w'.cell? ⟨bx, 2, none⟩ = some (.int .i64 a)) (first | go_keep | exact ⟨k1, k2⟩) (first | (go_at_call 66; refine (unhide Hop _ (by exact (unhide H0).led.drew)).mono ?_; rintro e w4 ⟨rfl, h1, h2⟩; have h2u := h2.undrew; have k1 := ((unhide H0).blk.frT h2u (by decide)).cell 0; have k2 := ((unhide HX).frT h2u (by decide)).cell 2; simp only [List.getElem?_toArray, List.getElem?_cons_zero, List.getElem?_cons_succ] at k1 k2))
  have HL4 := hide h1
  have HF4 := hide h2.undrew
  have HB4 := hide ((unhide H0).blk.frT h2.undrew (by decide))
  have HX4 := hide ((unhide HX).frT h2.undrew (by decide))
  have HR4 := hide ((unhide H0).rfd.frT h2.undrew)
  have k3 := (unhide HB4).cell 1
  simp only [List.getElem?_toArray, List.getElem?_cons_zero, List.getElem?_cons_succ] at k3
  clear h1 h2 h2u k1 c0 x2
  go_upto_region 2 with fail
  go_region_held3 (fun w' => w'.cell? ⟨q, 1, none⟩ = some (.pointer (some ⟨c, 0, none⟩)) ∧ w'.cell? ⟨bx, 2, none⟩ = some (.int .i64 a)) (first | go_keep | exact ⟨j1, j2⟩) (first | (go_at_call 13; refine (unhide Hor _ (by exact (unhide HR4).drew)).mono ?_; rintro e w5 ⟨rfl, h1, h2⟩; have h2u := h2.undrew; have j1 := ((unhide HB4).frT h2u (by decide)).cell 1; have j2 := ((unhide HX4).frT h2u (by decide)).cell 2; simp only [List.getElem?_toArray, List.getElem?_cons_zero, List.getElem?_cons_succ] at j1 j2))
  have HF : Hid (PairAt w5 B q p c s' ∧ FrT B tAll w w5) := ⟨⟨(unhide HB4).frT h2.undrew (by decide), (unhide HL4).frT h2.undrew, h1⟩, ((FrT.of_below (unhide Hb0)).trans ((unhide HF4).mono (by simp [tAll]; intros; simp [*]))).trans (h2.undrew.mono (by simp [tAll]; intros; simp [*]))⟩
  have e1 : (x == x) = true := by simp
  have e2 : (y == y) = true := by simp
  clear h1 h2 h2u j1 j2 k2 k3
  go_wp2_with fail
  go_ret
  exact ⟨rfl, (unhide HF).1, (unhide HF).2⟩

set_option maxRecDepth 100000 in
set_option maxHeartbeats 4000000 in
theorem closed_any (B q p c : Nat) (s : Bk) (kd bk a b : Int) (ao : Option Addr) (n cap : Nat) (t : ByteArray) (w : World) (h : PairAt w B q p c s) :
    Calls Tryz.prog 82 #[.pointer (some ⟨q, 0, none⟩), .agg #[.int .i64 kd, .int .i64 bk, .int .i64 a, .int .i64 b, .slice ao n cap, .string t]] w fun e w' => e = .returned (.bool true) ∧ PairAt w' B q p c (cls s a).2 ∧ FrT B tAll w w' := by
  obtain ⟨bx, hbx⟩ : ∃ bx, w.heap.size = bx := ⟨_, rfl⟩
  obtain ⟨W, hW⟩ : ∃ W, w.alloc (.cells #[.int .i64 kd, .int .i64 bk, .int .i64 a, .int .i64 b, .slice ao n cap, .string t] 33) = W := ⟨_, rfl⟩
  have HX : Hid (Blk W bx #[.int .i64 kd, .int .i64 bk, .int .i64 a, .int .i64 b, .slice ao n cap, .string t] 33) := by rw [← hW, ← hbx]; exact Blk.new _ _ _
  have Hb0 : Hid (Below w.heap.size w W) := by rw [← hW]; exact (Below.refl _ _).alloc (Nat.le_refl _) _
  have H0 := hide (h.kept (unhide Hb0))
  have Hop := hide (fun (wx : World) (h : Led wx B p s) => dayClose_any B p s a wx h)
  have Hor := hide (fun (wx : World) (h : Rfd wx B c s) => refClose_any B c s a wx h)
  obtain ⟨⟨x, s'⟩, hr⟩ : ∃ r, cls s a = r := ⟨_, rfl⟩
  rw [hr] at Hop Hor ⊢
  simp only at Hop Hor ⊢
  have c0 := (unhide H0).blk.cell 0
  have x2 := (unhide HX).cell 2
  simp only [List.getElem?_toArray, List.getElem?_cons_zero, List.getElem?_cons_succ] at c0 x2
  clear h hr
  go_enter Tryz.func82, Tryz.ntmps82
  go_upto_region 1 with fail
  try rw [hW]
  try rw [hbx]
  clear hW hbx
  go_region_held3 (fun w' => w'.cell? ⟨q, 0, none⟩ = some (.pointer (some ⟨p, 0, none⟩)) ∧ w'.cell? ⟨bx, 2, none⟩ = some (.int .i64 a)) (first | go_keep | exact ⟨k1, k2⟩) (first | (go_at_call 67; refine (unhide Hop _ (by exact (unhide H0).led.drew)).mono ?_; rintro e w4 ⟨rfl, h1, h2⟩; have h2u := h2.undrew; have k1 := ((unhide H0).blk.frT h2u (by decide)).cell 0; have k2 := ((unhide HX).frT h2u (by decide)).cell 2; simp only [List.getElem?_toArray, List.getElem?_cons_zero, List.getElem?_cons_succ] at k1 k2))
  have HL4 := hide h1
  have HF4 := hide h2.undrew
  have HB4 := hide ((unhide H0).blk.frT h2.undrew (by decide))
  have HX4 := hide ((unhide HX).frT h2.undrew (by decide))
  have HR4 := hide ((unhide H0).rfd.frT h2.undrew)
  have k3 := (unhide HB4).cell 1
  simp only [List.getElem?_toArray, List.getElem?_cons_zero, List.getElem?_cons_succ] at k3
  clear h1 h2 h2u k1 c0 x2
  go_upto_region 2 with fail
  go_region_held3 (fun w' => w'.cell? ⟨q, 1, none⟩ = some (.pointer (some ⟨c, 0, none⟩)) ∧ w'.cell? ⟨bx, 2, none⟩ = some (.int .i64 a)) (first | go_keep | exact ⟨j1, j2⟩) (first | (go_at_call 14; refine (unhide Hor _ (by exact (unhide HR4).drew)).mono ?_; rintro e w5 ⟨rfl, h1, h2⟩; have h2u := h2.undrew; have j1 := ((unhide HB4).frT h2u (by decide)).cell 1; have j2 := ((unhide HX4).frT h2u (by decide)).cell 2; simp only [List.getElem?_toArray, List.getElem?_cons_zero, List.getElem?_cons_succ] at j1 j2))
  have HF : Hid (PairAt w5 B q p c s' ∧ FrT B tAll w w5) := ⟨⟨(unhide HB4).frT h2.undrew (by decide), (unhide HL4).frT h2.undrew, h1⟩, ((FrT.of_below (unhide Hb0)).trans ((unhide HF4).mono (by simp [tAll]; intros; simp [*]))).trans (h2.undrew.mono (by simp [tAll]; intros; simp [*]))⟩
  have e1 : (x == x) = true := by simp
  clear h1 h2 h2u j1 j2 k2 k3
  go_wp2_with fail
  go_ret
  exact ⟨rfl, (unhide HF).1, (unhide HF).2⟩

end Go.Proofs.YtdchbenfccofpaaGreatDoor
