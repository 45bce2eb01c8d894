/- Walks of the books: the document's Post. -/
import Derived.Test.YtpcdkhmahbecaaaGreatDoorBkN
import Derived.Test.YtpcdkhmahbecaaaGreatDoorBkL
namespace Go.Proofs.YtpcdkhmahbecaaaGreatDoor
open Go.RowKit Db

theorem info_rtx : (Tryz.prog.info? 50).map (fun i => (i.zero, i.size, i.bytes)) = some (some (.agg #[.int .i64 0, .int .i64 0, .slice none 0 0]), 3, 40) := by kernel_rfl
theorem size_line : (Tryz.prog.info? 52).map (·.size) = some 2 := by kernel_rfl
theorem pst_ref {s : Bk} {id day : Int} {ls : List Ln} (h : ¬ (id < 0 ∨ 9999 < id)) (hf : findT id s.txs = none) (hr : ¬ refE s day ls = 0) : pst s id day ls = (refE s day ls, s) := by
  by_cases hd : day < 0 ∨ 999 < day
  · rw [pst_day h hf hd, refE_14 hd]
  · by_cases hl : lnsE s ls = 0
    · by_cases h64 : 64 ≤ s.txs.length
      · rw [pst_full h hf hd hl h64, refE_11 hd hl h64]
      · exact absurd (refE_0 hd hl h64) hr
    · rw [pst_bad h hf hd hl, refE_l hd rfl hl]
theorem refE_zero {s : Bk} {day : Int} {ls : List Ln} (h : refE s day ls = 0) : ¬ (day < 0 ∨ 999 < day) ∧ lnsE s ls = 0 ∧ ¬ 64 ≤ s.txs.length := by
  unfold refE at h
  split at h
  · simp at h
  · rename_i h1
    split at h
    · rename_i h2; exact absurd h h2
    · rename_i h2
      split at h
      · simp at h
      · rename_i h3; exact ⟨h1, Decidable.not_not.1 h2, h3⟩

theorem RefAt.post {w w5 : World} {B p : Nat} {vp vc vt vt' v2 : Value} {tv : List (Tn × Value)} {s s' : Bk} {t : Tn} (h : RefAt w B p vp vc vt tv s) (o : Obj) (hv : w.ownsRow B 52 2 v2 t.2.2.length (cellsL t.2.2)) (hgr : (w.alloc o).grownBy w5 vt.ownBlock) (hblk : Blk w5 p #[vp, vc, vt] 47)
    (hown : w5.ownsRow B 50 3 vt' (tv.length + 1) (cellsT (tv ++ [(t, v2)]))) (hs : s'.txs = s.txs ++ [t]) (ha : s'.acs = s.acs) (hg : BkGood s') :
    RefAt (w5.setCell ⟨p, 2, none⟩ vt') B p vp vc vt' (tv ++ [(t, v2)]) s' ∧ FrT B tR w (w5.setCell ⟨p, 2, none⟩ vt') := by
  have f1 : FrT B [50] w w5 := ((FrT.refl _ _ w).alloc o).grown hgr (T := 50) (by simp) (fun k hk => ⟨(ownsRow_tg h.txs.own k hk).1, tg_alloc (ownsRow_tg h.txs.own k hk).2 o⟩)
  have f2 : FrT B [47] w5 (w5.setCell ⟨p, 2, none⟩ vt') := (FrT.refl _ _ w5).setCell (T := 47) (by simp) hblk.tg h.lo _
  refine ⟨⟨?_, h.lo, ?_, ?_, ⟨?_, ?_⟩, ?_, hg⟩, (f1.mono (by simp [tR])).trans (f2.mono (by simp [tR]))⟩
  · have := hblk.set 2 vt'
    simpa using this
  · rw [ha]; exact ownsRow_frT (ownsRow_frT h.par f1 (by decide)) f2 (by decide)
  · rw [ha]; exact ownsRow_frT (ownsRow_frT h.clo f1 (by decide)) f2 (by decide)
  · have := ownsRow_frT hown f2 (by decide)
    simpa using this
  · intro x hx
    rcases List.mem_append.1 hx with hx | hx
    · exact ownsRow_frT (ownsRow_frT (h.txs.lns x hx) f1 (by decide)) f2 (by decide)
    · simp only [List.mem_singleton] at hx
      subst hx
      exact ownsRow_frT (ownsRow_frT hv f1 (by decide)) f2 (by decide)
  · rw [hs, ← h.jr]; simp

/-- The list that was made and copied. -/
theorem own_copied {w w' : World} {B : Nat} {ls : List Ln} (hB : B ≤ w.heap.size) (hn : ls.length ≤ 4) (hg : w'.heap[w.heap.size]? = some (.cells (cellsL ls ++ (madeCells #[.int .i64 0, .int .i64 0] (ls.length * 2)).toList.drop (cellsL ls).length).toArray 52 (0, 0))) :
    w'.ownsRow B 52 2 (.slice (some ⟨w.heap.size, 0, none⟩) ls.length ls.length) ls.length (cellsL ls) := by
  have hd : (madeCells #[.int .i64 0, .int .i64 0] (ls.length * 2)).toList.drop (cellsL ls).length = [] := by
    apply List.drop_of_length_le
    rw [Array.length_toList, size_madeCells, cellsL_length]
    exact Nat.le_refl _
  rw [hd, List.append_nil] at hg
  have := owns_new (B := B) (size := 2) (n := ls.length) hg hB (by unfold maxLen; omega) (by simpa using cellsL_length ls)
  simpa using this

set_option maxRecDepth 100000 in
set_option maxHeartbeats 4000000 in
theorem refPost_any (B p : Nat) (s : Bk) (id day : Int) (v : Value) (ls : List Ln) (w : World) (h : Rfd w B p s) (hl : LinesAt w v ls) :
    Calls Tryz.prog 9 #[.pointer (some ⟨p, 0, none⟩), .int .i64 id, .int .i64 day, v] w fun e w' => e = .returned (.int .i64 (pst s id day ls).1) ∧ Rfd w' B p (pst s id day ls).2 ∧ FrT B tR w w' := by
  have Hold := hide (old_any B p s id day v ls w h hl)
  have Href := hide (fun (wx : World) (hb : Below w.heap.size w wx) (h : Rfd wx B p s) => refused_any B p s day v ls wx h (hl.kept hb))
  obtain ⟨vp, vc, vt, tv, h⟩ := h
  obtain ⟨ao, cap, rfl⟩ := hl.form
  obtain ⟨jj, hj, hy0, hy1, hy2⟩ := info_parts info_rtx
  have H := hide h
  have Hl := hide hl
  by_cases hid : id < 0 ∨ 9999 < id
  · rw [pst_id hid]
    clear h hl
    by_cases hneg : id < 0
    · go_enter Tryz.func9, Tryz.ntmps9
      go_wp2_with fail
      go_ret
      exact ⟨rfl, ⟨_, _, _, _, unhide H⟩, FrT.refl _ _ _⟩
    · have hgt : 9999 < id := by omega
      go_enter Tryz.func9, Tryz.ntmps9
      go_wp2_with fail
      go_ret
      exact ⟨rfl, ⟨_, _, _, _, unhide H⟩, FrT.refl _ _ _⟩
  have h0 : ¬ id < 0 := by omega
  have h9 : ¬ 9999 < id := by omega
  clear h hl
  cases hfd : findT id s.txs with
  | some t =>
    rw [pst_old hid hfd]
    rw [oldE_some hfd] at Hold
    obtain ⟨x, hx⟩ : ∃ x, repE t.2.1 day t.2.2 ls = x := ⟨_, rfl⟩
    rw [hx] at Hold ⊢
    clear hx hfd
    simp only at Hold ⊢
    go_enter Tryz.func9, Tryz.ntmps9
    go_wp2_with fail
    refine (unhide Hold).mono ?_
    rintro e w1 ⟨rfl, hb1⟩
    have Hb1 := hide hb1
    clear hb1
    go_wp2_with fail
    go_ret
    exact ⟨rfl, ⟨_, _, _, _, (unhide H).kept (unhide Hb1)⟩, FrT.of_below (unhide Hb1)⟩
  | none =>
    rw [oldE_none hfd] at Hold
    simp only at Hold
    by_cases hr : refE s day ls = 0
    · obtain ⟨hd, hlz, h64⟩ := refE_zero hr
      have hok := pst_ok hid hfd hd hlz h64
      have Hgood : Hid (BkGood { s with txs := s.txs ++ [(id, day, ls)] }) := by
        have := BkGood.pst (unhide H).good id day ls
        rw [hok] at this
        exact this
      rw [hok]
      rw [hr] at Href
      have hjl : tv.length = s.txs.length := by rw [← (unhide H).jr, List.length_map]
      have h64' : tv.length < 64 := by omega
      have hl4 : ls.length ≤ 4 := (lnsE_ok (unhide H).good hlz).1
      have hl2 : 2 ≤ ls.length := by
        by_cases hx : ls.length < 2
        · rw [lnsE_15 (.inl hx)] at hlz; simp at hlz
        · omega
      obtain ⟨aot, capt, rfl⟩ := ownsRow_form (unhide H).txs.own
      obtain ⟨ao1, cap1, e1, hrr⟩ := unhide Hl
      simp only [Value.slice.injEq, true_and] at e1
      obtain ⟨rfl, rfl⟩ := e1
      obtain ⟨b, off, rfl, hbl, hcs⟩ : ∃ b off, ao = some ⟨b, off, none⟩ ∧ b < w.heap.size ∧ ∀ (i : Nat) (l : Ln), ls[i]? = some l → w.cell? ⟨b, off + i * 2, none⟩ = some (.int .i64 l.1) ∧ w.cell? ⟨b, off + i * 2 + 1, none⟩ = some (.int .i64 l.2) := by
        rcases hrr with rfl | hr
        · simp at hl2
        · exact hr
      have Hcs := hide (lines_cells hcs)
      have hBp := (unhide H).lo
      have hpl := (unhide H).blk.lt
      have hmk := run_make2 ls.length (by omega)
      clear hfd hlz hjl h64 hok hrr hcs hr hd
      go_enter Tryz.func9, Tryz.ntmps9
      go_wp2_with fail
      refine (unhide Hold).mono ?_
      rintro e w1 ⟨rfl, hb1⟩
      have Hb1 := hide hb1
      clear hb1
      go_wp2_with fail
      refine (unhide Href _ (unhide Hb1) ⟨_, _, _, _, (unhide H).kept (unhide Hb1)⟩).mono ?_
      rintro e w2 ⟨rfl, n, hw2⟩
      have Hb2 : Hid (Below w.heap.size w w2) := by rw [hw2]; exact (unhide Hb1).drewN n
      clear hw2
      have H2 := hide ((unhide H).kept (unhide Hb2))
      have hsz2 := (unhide Hb2).size
      have Hcs2 : Hid (∀ j u, (cellsL ls)[j]? = some u → (w2.alloc (.cells (madeCells #[.int .i64 0, .int .i64 0] (ls.length * 2)) 52)).cell? ((⟨b, off, none⟩ : Addr).add j) = some u) := by
        intro j u hju
        rw [← unhide Hcs j u hju, Addr.add_lit]
        exact ((unhide Hb2).alloc hsz2 _).cell (p := ⟨b, off + j, none⟩) hbl
      go_wp2_with (first
        | (refine wpList_copy2 rfl (.tmp 38) (.tmp 39) 31 31 rfl 52 Tryz.underlying31 size_line w2.heap.size ls.length ls.length (some ⟨b, off, none⟩) ls.length cap rfl rfl (madeCells #[.int .i64 0, .int .i64 0] (ls.length * 2)) 52 (heap_alloc_new _ _) (cellsL ls) (cellsL_length ls) (Nat.le_refl _) (.inr ⟨_, rfl, unhide Hcs2⟩) (by rw [size_madeCells, cellsL_length]; exact Nat.le_refl _) (cellsL_one ls) ?_; intro w3 hg3 ho3 hs3 os3 tp3 ou3; have hown3 := own_copied (B := B) (w := w2) (by omega) hl4 hg3; have hb3 : Below w2.heap.size w2 w3 := ⟨os3, tp3, ou3, (by rw [hs3]; simp), (fun k hk => by rw [ho3 k (by omega)]; exact Below.heap_alloc _ _ _ hk)⟩; have H3 := hide ((unhide H2).kept hb3); have c3 := (unhide H3).blk.cell 2; have z3 := (unhide H3).blk.frozen 2; have l3 := (unhide H3).blk.lt; simp only [List.getElem?_toArray, List.getElem?_cons_zero, List.getElem?_cons_succ] at c3; have Hown3 := hide hown3; have Hb3 := hide ((unhide Hb2).then hb3); have hsz3 := hb3.size; clear hown3 hb3 hg3 ho3 hs3 os3 tp3 ou3)
        | (at_builtin; refine wpList_append_own _ rfl (.tmp 45) (.tmp 50) 45 rfl B 50 jj (.agg #[.int .i64 0, .int .i64 0, .slice none 0 0]) 3 40 Tryz.underlying45 hj hy0 hy1 hy2 rfl (by decide) (.slice aot tv.length capt) tv.length _ rfl ((unhide H3).txs.own.alloc _) ⟨w3.heap.size, 0, none⟩ 1 1 [.int .i64 id, .int .i64 day, .slice (some ⟨w2.heap.size, 0, none⟩) ls.length ls.length] rfl rfl (new3 _ _ (by simp) _ _ _ _) (fun x hx => by simp at hx; rcases hx with rfl | rfl | rfl <;> rfl) (by unfold maxLen; omega) (by omega) (by simp; omega) ?_; intro vq' w5 hown5 hgr5 _; obtain ⟨gf, cf, rfl, hgf, hgf'⟩ := ownsRow_some hown5 (Nat.succ_pos _); have hblk5 := ((unhide H3).blk.alloc _).grown hgr5 (blk_own_ne (unhide H3).blk (unhide H3).txs.own (by decide)); have c5 := hblk5.cell 2; have z5 := hblk5.frozen 2; have l5 := hblk5.lt; simp only [List.getElem?_toArray, List.getElem?_cons_zero, List.getElem?_cons_succ] at c5; have Hblk5 := hide hblk5; have Hown5 := hide hown5; have Hgr5 := hide hgr5; clear hblk5 hown5 hgr5))
      go_ret
      have hfin := (unhide H3).post _ (t := (id, day, ls)) (unhide Hown3) (unhide Hgr5) (unhide Hblk5) (s' := { s with txs := s.txs ++ [(id, day, ls)] }) (by rw [cellsT_snoc]; exact unhide Hown5) rfl rfl (unhide Hgood)
      exact ⟨rfl, ⟨_, _, _, _, hfin.1⟩, (FrT.of_below (unhide Hb3)).trans hfin.2⟩
    · rw [pst_ref hid hfd hr]
      obtain ⟨x, hx⟩ : ∃ x, refE s day ls = x := ⟨_, rfl⟩
      rw [hx] at Href hr ⊢
      have hxe : (x == 0) = false := by simpa using hr
      clear hx hfd
      simp only
      go_enter Tryz.func9, Tryz.ntmps9
      go_wp2_with fail
      refine (unhide Hold).mono ?_
      rintro e w1 ⟨rfl, hb1⟩
      have Hb1 := hide hb1
      clear hb1
      go_wp2_with fail
      refine (unhide Href _ (unhide Hb1) ⟨_, _, _, _, (unhide H).kept (unhide Hb1)⟩).mono ?_
      rintro e w2 ⟨rfl, n, hw2⟩
      have Hb2 : Hid (Below w.heap.size w w2) := by rw [hw2]; exact (unhide Hb1).drewN n
      clear hw2
      go_wp2_with fail
      go_ret
      exact ⟨rfl, ⟨_, _, _, _, (unhide H).kept (unhide Hb2)⟩, FrT.of_below (unhide Hb2)⟩

end Go.Proofs.YtpcdkhmahbecaaaGreatDoor
