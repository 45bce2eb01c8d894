/- Walks of the books: the program's Post. -/
import Derived.Test.YtpcdkhmahbecaaaGreatDoorBkI
namespace Go.Proofs.YtpcdkhmahbecaaaGreatDoor
open Go.RowKit Db

theorem info_line : (Tryz.prog.info? 52).map (fun i => (i.zero, i.size, i.bytes)) = some (some (.agg #[.int .i64 0, .int .i64 0]), 2, 16) := by kernel_rfl
theorem info_tx : (Tryz.prog.info? 101).map (fun i => (i.zero, i.size, i.bytes)) = some (some (.agg #[.int .i64 0, .int .i64 0, .slice none 0 0]), 3, 40) := by kernel_rfl

theorem pst_id {s : Bk} {id day : Int} {ls : List Ln} (h : id < 0 ∨ 9999 < id) : pst s id day ls = (12, s) := by unfold pst; rw [if_pos h]
theorem pst_old {s : Bk} {id day : Int} {ls : List Ln} {t : Tn} (h : ¬ (id < 0 ∨ 9999 < id)) (hf : findT id s.txs = some t) : pst s id day ls = (repE t.2.1 day t.2.2 ls, s) := by unfold pst; rw [if_neg h, hf]; rfl
theorem pst_day {s : Bk} {id day : Int} {ls : List Ln} (h : ¬ (id < 0 ∨ 9999 < id)) (hf : findT id s.txs = none) (hd : day < 0 ∨ 999 < day) : pst s id day ls = (14, s) := by unfold pst; rw [if_neg h, hf]; simp only; rw [if_pos hd]
theorem pst_bad {s : Bk} {id day : Int} {ls : List Ln} (h : ¬ (id < 0 ∨ 9999 < id)) (hf : findT id s.txs = none) (hd : ¬ (day < 0 ∨ 999 < day)) (hl : ¬ lnsE s ls = 0) : pst s id day ls = (lnsE s ls, s) := by unfold pst; rw [if_neg h, hf]; simp only; rw [if_neg hd, if_pos hl]
theorem pst_full {s : Bk} {id day : Int} {ls : List Ln} (h : ¬ (id < 0 ∨ 9999 < id)) (hf : findT id s.txs = none) (hd : ¬ (day < 0 ∨ 999 < day)) (hl : lnsE s ls = 0) (h64 : 64 ≤ s.txs.length) : pst s id day ls = (11, s) := by unfold pst; rw [if_neg h, hf]; simp only; rw [if_neg hd, if_neg (by simp [hl]), if_pos h64]
theorem pst_ok {s : Bk} {id day : Int} {ls : List Ln} (h : ¬ (id < 0 ∨ 9999 < id)) (hf : findT id s.txs = none) (hd : ¬ (day < 0 ∨ 999 < day)) (hl : lnsE s ls = 0) (h64 : ¬ 64 ≤ s.txs.length) : pst s id day ls = (0, { s with txs := s.txs ++ [(id, day, ls)] }) := by unfold pst; rw [if_neg h, hf]; simp only; rw [if_neg hd, if_neg (by simp [hl]), if_neg h64]

theorem cellsL_length (l : List Ln) : (cellsL l).length = l.length * 2 := by
  induction l with
  | nil => rfl
  | cons a r ih => simp only [cellsL, List.flatMap_cons, List.length_append, List.length_cons, List.length_nil] at ih ⊢; omega
theorem cellsL_one (l : List Ln) : ∀ u ∈ cellsL l, u.oneCell' = true := by
  intro u hu
  simp only [cellsL, List.mem_flatMap] at hu
  obtain ⟨a, _, hu⟩ := hu
  simp at hu
  rcases hu with rfl | rfl <;> rfl
theorem lines_cells {w : World} {b off : Nat} {ls : List Ln} (h : ∀ (i : Nat) (l : Ln), ls[i]? = some l → w.cell? ⟨b, off + i * 2, none⟩ = some (.int .i64 l.1) ∧ w.cell? ⟨b, off + i * 2 + 1, none⟩ = some (.int .i64 l.2)) :
    ∀ j u, (cellsL ls)[j]? = some u → w.cell? ((⟨b, off, none⟩ : Addr).add j) = some u := by
  intro j u hj
  rw [Addr.add_lit]
  have hlt : j < ls.length * 2 := by rw [← cellsL_length]; exact (List.getElem?_eq_some_iff.1 hj).1
  obtain ⟨l, hl⟩ : ∃ l, ls[j / 2]? = some l := ⟨ls[j / 2]'(by omega), List.getElem?_eq_getElem _⟩
  have h2 := two_get (fun x : Ln => Value.int .i64 x.1) (fun x => .int .i64 x.2) ls (j / 2) l hl
  have h3 := h (j / 2) l hl
  rcases Nat.mod_two_eq_zero_or_one j with hm | hm
  · rw [show j = j / 2 * 2 by omega] at hj ⊢
    rw [show (j / 2 * 2) = j / 2 * 2 from rfl] at hj
    have := h2.1
    unfold cellsL at hj
    rw [this] at hj
    cases hj
    exact h3.1
  · have e : j = j / 2 * 2 + 1 := by omega
    rw [e] at hj ⊢
    have := h2.2
    unfold cellsL at hj
    rw [this] at hj
    cases hj
    exact h3.2
theorem below_of_none {w w' : World} (h : w.grownBy w' none) : Below w.heap.size w w' := ⟨h.os, h.tape, h.output, h.size, fun k hk => h.block k hk (by simp)⟩

/-- One transaction more. -/
theorem LedAt.post {w w5 : World} {B p : Nat} {va vt vt' v2 : Value} {tv : List (Tn × Value)} {s s' : Bk} {t : Tn} (h : LedAt w B p va vt tv s) (o : Obj) (hv : w.ownsRow B 52 2 v2 t.2.2.length (cellsL t.2.2)) (hgr : (w.alloc o).grownBy w5 vt.ownBlock) (hblk : Blk w5 p #[va, vt] 65)
    (hown : w5.ownsRow B 101 3 vt' (tv.length + 1) (cellsT (tv ++ [(t, v2)]))) (hs : s'.txs = s.txs ++ [t]) (ha : s'.acs = s.acs) (hg : BkGood s') :
    LedAt (w5.setCell ⟨p, 1, none⟩ vt') B p va vt' (tv ++ [(t, v2)]) s' ∧ FrT B tP w (w5.setCell ⟨p, 1, none⟩ vt') := by
  have f1 : FrT B [101] w w5 := ((FrT.refl _ _ w).alloc o).grown hgr (T := 101) (by simp) (fun k hk => ⟨(ownsRow_tg h.txs.own k hk).1, tg_alloc (ownsRow_tg h.txs.own k hk).2 o⟩)
  have f2 : FrT B [65] w5 (w5.setCell ⟨p, 1, none⟩ vt') := (FrT.refl _ _ w5).setCell (T := 65) (by simp) hblk.tg h.lo _
  refine ⟨⟨?_, h.lo, ?_, ⟨?_, ?_⟩, ?_, hg⟩, (f1.mono (by simp [tP])).trans (f2.mono (by simp [tP]))⟩
  · have := hblk.set 1 vt'
    simpa using this
  · rw [ha]; exact ownsRow_frT (ownsRow_frT h.acs f1 (by decide)) f2 (by decide)
  · have := ownsRow_frT hown f2 (by decide)
    simpa using this
  · intro x hx
    rcases List.mem_append.1 hx with hx | hx
    · exact ownsRow_frT (ownsRow_frT (h.txs.lns x hx) f1 (by decide)) f2 (by decide)
    · simp only [List.mem_singleton] at hx
      subst hx
      exact ownsRow_frT (ownsRow_frT hv f1 (by decide)) f2 (by decide)
  · rw [hs, ← h.jr]; simp

/-- The book behind a Post: its lists of lines are those that it had, or new. -/
def LedN (w0 : World) (tv : List (Tn × Value)) (w : World) (B p : Nat) (s : Bk) : Prop := ∃ va' vt' tv', LedAt w B p va' vt' tv' s ∧ ∀ x ∈ tv', x ∈ tv ∨ ∀ k, x.2.ownBlock = some k → w0.heap.size ≤ k
theorem LedN.same {w0 w : World} {B p : Nat} {va vt : Value} {tv : List (Tn × Value)} {s : Bk} (h : LedAt w B p va vt tv s) : LedN w0 tv w B p s := ⟨va, vt, tv, h, fun _ hx => .inl hx⟩
theorem LedN.led {w0 w : World} {B p : Nat} {tv : List (Tn × Value)} {s : Bk} (h : LedN w0 tv w B p s) : Led w B p s := by
  obtain ⟨va, vt, tv', h, _⟩ := h; exact ⟨va, vt, tv', h⟩

set_option maxRecDepth 100000 in
set_option maxHeartbeats 4000000 in
theorem ledPost_any (B p : Nat) (s : Bk) (id day : Int) (v : Value) (ls : List Ln) (w : World) (va vt : Value) (tv : List (Tn × Value)) (h : LedAt w B p va vt tv s) (hl : LinesAt w v ls) :
    Calls Tryz.prog 99 #[.pointer (some ⟨p, 0, none⟩), .int .i64 id, .int .i64 day, v] w fun e w' => e = .returned (.int .i64 (pst s id day ls).1) ∧ LedN w tv w' B p (pst s id day ls).2 ∧ FrT B tP w w' := by
  obtain ⟨ao, cap, rfl⟩ := hl.form
  obtain ⟨ii, hi, hz0, hz1, hz2⟩ := info_parts info_line
  obtain ⟨jj, hj, hy0, hy1, hy2⟩ := info_parts info_tx
  have H := hide h
  have Hl := hide hl
  by_cases hid : id < 0 ∨ 9999 < id
  · rw [pst_id hid]
    clear h hl
    by_cases hneg : id < 0
    · go_enter Tryz.func99, Tryz.ntmps99
      go_wp2_with fail
      go_ret
      exact ⟨rfl, .same (unhide H), FrT.refl _ _ _⟩
    · have hgt : 9999 < id := by omega
      go_enter Tryz.func99, Tryz.ntmps99
      go_wp2_with fail
      go_ret
      exact ⟨rfl, .same (unhide H), FrT.refl _ _ _⟩
  · have h0 : ¬ id < 0 := by omega
    have h9 : ¬ 9999 < id := by omega
    have Hf := hide (find_any B p s id va vt tv w h)
    clear h hl
    cases hfd : findT id s.txs with
    | some t =>
      rw [pst_old hid hfd]
      rw [hfd] at Hf
      obtain ⟨x, hx⟩ : ∃ x, repE t.2.1 day t.2.2 ls = x := ⟨_, rfl⟩
      rw [hx]
      have Hx := hide hx
      clear hx hfd
      go_enter Tryz.func99, Tryz.ntmps99
      go_wp2_with fail
      refine (unhide Hf).mono ?_
      rintro e w1 ⟨⟨t1, v1, ht1, hm1, rfl⟩ | ⟨ht1, _⟩, hb1⟩
      · simp only [Option.some.injEq] at ht1
        subst ht1
        have hln := ((unhide H).kept hb1).txs.lns _ hm1
        have h4 : t.2.2.length ≤ 4 := by
          have : t ∈ s.txs := by rw [← (unhide H).jr]; exact List.mem_map_of_mem hm1
          exact ((unhide H).good.tx t this).2.2.2.2.1
        obtain ⟨ti, td, tl⟩ := t
        simp only at hln h4 Hx
        obtain ⟨aol, capl, rfl⟩ := ownsRow_form hln
        have Hln := hide hln
        have Hb1 := hide hb1
        have hsz1 := hb1.size
        clear hm1 hb1 hln
        go_wp2_with fail
        refine (repeated_any ti td day tl ls _ _ _ (by exact (LinesAt.of_own (unhide Hln)).kept ((Below.refl _ _).alloc (Nat.le_refl _) _)) (by exact (unhide Hl).kept ((unhide Hb1).alloc hsz1 _)) h4).mono ?_
        rw [unhide Hx]
        rintro e w2 ⟨rfl, hb2⟩
        have Hb2 : Hid (Below w.heap.size w w2) := ((unhide Hb1).alloc hsz1 _).then' (by simp; omega) hb2
        clear hb2
        go_wp2_with fail
        go_ret
        exact ⟨rfl, .same ((unhide H).kept (unhide Hb2)), FrT.of_below (unhide Hb2)⟩
      · cases ht1
    | none =>
      rw [hfd] at Hf
      by_cases hd : day < 0 ∨ 999 < day
      · rw [pst_day hid hfd hd]
        clear hfd
        by_cases hneg : day < 0
        all_goals
          go_enter Tryz.func99, Tryz.ntmps99
          go_wp2_with fail
          refine (unhide Hf).mono ?_
          rintro e w1 ⟨⟨t1, v1, ht1, _, _⟩ | ⟨_, rfl⟩, hb1⟩
          · cases ht1
          have Hb1 := hide hb1
          have hsz1 := hb1.size
          clear hb1
          have hor : ¬ day < 0 → 999 < day := fun h => by omega
          go_wp2_with fail
          go_ret
          exact ⟨rfl, .same ((unhide H).kept ((unhide Hb1).alloc hsz1 _)), FrT.of_below ((unhide Hb1).alloc hsz1 _)⟩
      · have hd0 : ¬ day < 0 := by omega
        have hd9 : ¬ 999 < day := by omega
        have Hc := hide (fun (wx : World) (hb : Below w.heap.size w wx) => checkLines_any B p s _ ls wx ⟨_, _, _, (unhide H).kept hb⟩ ((unhide Hl).kept hb))
        by_cases hlz : lnsE s ls = 0
        · have Hcc : Hid (∀ (wx : World), Below w.heap.size w wx → Calls Tryz.prog 119 #[.pointer (some ⟨p, 0, none⟩), .slice ao ls.length cap] wx fun e w' => e = .returned (.int .i64 0) ∧ Below wx.heap.size wx w') := by
            intro wx hb; have := unhide Hc wx hb; rw [hlz] at this; exact this
          obtain ⟨aot, capt, rfl⟩ := ownsRow_form (unhide H).txs.own
          have hjl : tv.length = s.txs.length := by rw [← (unhide H).jr, List.length_map]
          have hgp := (unhide H).good.posts
          by_cases h64 : 64 ≤ s.txs.length
          · rw [pst_full hid hfd hd hlz h64]
            have h64' : 64 ≤ tv.length := by omega
            clear hfd hlz Hc hjl hgp h64
            go_enter Tryz.func99, Tryz.ntmps99
            go_wp2_with fail
            refine (unhide Hf).mono ?_
            rintro e w1 ⟨⟨t1, v1, ht1, _, _⟩ | ⟨_, rfl⟩, hb1⟩
            · cases ht1
            have Hb1 := hide hb1
            have hsz1 := hb1.size
            clear hb1
            go_wp2_with fail
            refine (unhide Hcc _ (by exact (unhide Hb1).alloc hsz1 _)).mono ?_
            rintro e w2 ⟨rfl, hb2⟩
            have Hb2 : Hid (Below w.heap.size w w2) := ((unhide Hb1).alloc hsz1 _).then' (by simp; omega) hb2
            have H2 := hide ((unhide H).kept (unhide Hb2))
            have c1 := (unhide H2).blk.cell 1
            simp only [List.getElem?_toArray, List.getElem?_cons_zero, List.getElem?_cons_succ] at c1
            clear hb2
            go_wp2_with fail
            go_ret
            exact ⟨rfl, .same (unhide H2), FrT.of_below (unhide Hb2)⟩
          · have hok := pst_ok hid hfd hd hlz h64
            have Hgood : Hid (BkGood { s with txs := s.txs ++ [(id, day, ls)] }) := by
              have := BkGood.pst (unhide H).good id day ls
              rw [hok] at this
              exact this
            rw [hok]
            have h64' : tv.length < 64 := by omega
            have hl4 : ls.length ≤ 4 := (lnsE_ok (unhide H).good hlz).1
            have hl2 : 2 ≤ ls.length := by
              by_cases hx : ls.length < 2
              · rw [lnsE_15 (.inl hx)] at hlz; simp at hlz
              · omega
            obtain ⟨ao1, cap1, e1, hr⟩ := unhide Hl
            simp only [Value.slice.injEq, true_and] at e1
            obtain ⟨rfl, rfl⟩ := e1
            obtain ⟨b, off, rfl, hbl, hcs⟩ : ∃ b off, ao = some ⟨b, off, none⟩ ∧ b < w.heap.size ∧ ∀ (i : Nat) (l : Ln), ls[i]? = some l → w.cell? ⟨b, off + i * 2, none⟩ = some (.int .i64 l.1) ∧ w.cell? ⟨b, off + i * 2 + 1, none⟩ = some (.int .i64 l.2) := by
              rcases hr with rfl | hr
              · simp at hl2
              · exact hr
            have Hcs := hide (lines_cells hcs)
            have hBp := (unhide H).lo
            have hpl := (unhide H).blk.lt
            clear hfd hlz Hc hjl hgp h64 hok hr hcs
            go_enter Tryz.func99, Tryz.ntmps99
            go_wp2_with fail
            refine (unhide Hf).mono ?_
            rintro e w1 ⟨⟨t1, v1, ht1, _, _⟩ | ⟨_, rfl⟩, hb1⟩
            · cases ht1
            have Hb1 := hide hb1
            have hsz1 := hb1.size
            clear hb1
            go_wp2_with fail
            refine (unhide Hcc _ (by exact (unhide Hb1).alloc hsz1 _)).mono ?_
            rintro e w2 ⟨rfl, hb2⟩
            have Hb2 : Hid (Below w.heap.size w w2) := ((unhide Hb1).alloc hsz1 _).then' (by simp; omega) hb2
            have H2 := hide ((unhide H).kept (unhide Hb2))
            have c1 := (unhide H2).blk.cell 1
            have z1 := (unhide H2).blk.frozen 1
            have hsz2 := (unhide Hb2).size
            simp only [List.getElem?_toArray, List.getElem?_cons_zero, List.getElem?_cons_succ] at c1
            have Hcs2 : Hid (∀ j u, (cellsL ls)[j]? = some u → w2.cell? ((⟨b, off, none⟩ : Addr).add j) = some u) := by
              intro j u hju
              rw [← unhide Hcs j u hju, Addr.add_lit]
              exact (unhide Hb2).cell (p := ⟨b, off + j, none⟩) hbl
            clear hb2
            go_wp2_with (first
              | (at_builtin; refine wpList_append_own _ rfl (.tmp 48) (.tmp 49) 31 rfl w2.heap.size 52 ii (.agg #[.int .i64 0, .int .i64 0]) 2 16 Tryz.underlying31 hi hz0 hz1 hz2 rfl (by decide) (.slice none 0 0) 0 [] rfl (World.ownsRow_nil _ _ _ _) ⟨b, off, none⟩ ls.length cap (cellsL ls) rfl (cellsL_length ls) (unhide Hcs2) (cellsL_one ls) (by unfold maxLen; omega) (by omega) (Nat.le_refl _) ?_; intro vk w3 hown3 hgr3 _; have hb3 := below_of_none hgr3; simp only [Nat.zero_add, List.nil_append] at hown3; obtain ⟨gk, ck, rfl, hgk, hgk'⟩ := ownsRow_some hown3 (by omega); have H3 := hide ((unhide H2).kept hb3); have c3 := (unhide H3).blk.cell 1; have z3 := (unhide H3).blk.frozen 1; have l3 := (unhide H3).blk.lt; simp only [List.getElem?_toArray, List.getElem?_cons_zero, List.getElem?_cons_succ] at c3; have Hown3 := hide (ownsRow_base hown3 (base' := B) (fun k hk => by have := (ownsRow_tg hown3 k hk).1; omega)); have Hb3 := hide ((unhide Hb2).then hb3); have hsz3 := hb3.size; clear hown3 hgr3 hb3)
              | (at_builtin; refine wpList_append_own _ rfl (.tmp 55) (.tmp 60) 61 rfl B 101 jj (.agg #[.int .i64 0, .int .i64 0, .slice none 0 0]) 3 40 Tryz.underlying61 hj hy0 hy1 hy2 rfl (by decide) (.slice aot tv.length capt) tv.length _ rfl ((unhide H3).txs.own.alloc _) ⟨w3.heap.size, 0, none⟩ 1 1 [.int .i64 id, .int .i64 day, .slice (some ⟨gk, 0, none⟩) ls.length ck] rfl rfl (new3 _ _ (by simp) _ _ _ _) (fun x hx => by simp at hx; rcases hx with rfl | rfl | rfl <;> rfl) (by unfold maxLen; omega) (by omega) (by simp; omega) ?_; intro vq' w5 hown5 hgr5 _; obtain ⟨gf, cf, rfl, hgf, hgf'⟩ := ownsRow_some hown5 (Nat.succ_pos _); have hblk5 := ((unhide H3).blk.alloc _).grown hgr5 (blk_own_ne (unhide H3).blk (unhide H3).txs.own (by decide)); have c5 := hblk5.cell 1; have z5 := hblk5.frozen 1; have l5 := hblk5.lt; simp only [List.getElem?_toArray, List.getElem?_cons_zero, List.getElem?_cons_succ] at c5; have Hblk5 := hide hblk5; have Hown5 := hide hown5; have Hgr5 := hide hgr5; clear hblk5 hown5 hgr5))
            go_ret
            have hfin := (unhide H3).post _ (t := (id, day, ls)) (unhide Hown3) (unhide Hgr5) (unhide Hblk5) (s' := { s with txs := s.txs ++ [(id, day, ls)] }) (by rw [cellsT_snoc]; exact unhide Hown5) rfl rfl (unhide Hgood)
            refine ⟨rfl, ⟨_, _, _, hfin.1, ?_⟩, (FrT.of_below (unhide Hb3)).trans hfin.2⟩
            intro x hx
            rcases List.mem_append.1 hx with hx | hx
            · exact .inl hx
            · right
              simp only [List.mem_singleton] at hx
              subst hx
              intro k hk
              simp only [Value.ownBlock, Option.some.injEq] at hk
              omega
        · obtain ⟨x, hx⟩ : ∃ x, lnsE s ls = x := ⟨_, rfl⟩
          rw [pst_bad hid hfd hd hlz]
          rw [hx] at Hc hlz ⊢
          have hxe : (x == 0) = false := by simpa using hlz
          clear hfd hx
          go_enter Tryz.func99, Tryz.ntmps99
          go_wp2_with fail
          refine (unhide Hf).mono ?_
          rintro e w1 ⟨⟨t1, v1, ht1, _, _⟩ | ⟨_, rfl⟩, hb1⟩
          · cases ht1
          have Hb1 := hide hb1
          have hsz1 := hb1.size
          clear hb1
          go_wp2_with fail
          refine (unhide Hc _ (by exact (unhide Hb1).alloc hsz1 _)).mono ?_
          rintro e w2 ⟨rfl, hb2⟩
          have Hb2 : Hid (Below w.heap.size w w2) := ((unhide Hb1).alloc hsz1 _).then' (by simp; omega) hb2
          clear hb2
          go_wp2_with fail
          go_ret
          exact ⟨rfl, .same ((unhide H).kept (unhide Hb2)), FrT.of_below (unhide Hb2)⟩

set_option maxHeartbeats 1000000 in
theorem dayPost_any (B p : Nat) (s : Bk) (id day : Int) (v : Value) (ls : List Ln) (w : World) (va vt : Value) (tv : List (Tn × Value)) (h : LedAt w B p va vt tv s) (hl : LinesAt w v ls) :
    Calls Tryz.prog 66 #[.pointer (some ⟨p, 0, none⟩), .int .i64 id, .int .i64 day, v] w fun e w' => e = .returned (.int .i64 (pst s id day ls).1) ∧ LedN w tv w' B p (pst s id day ls).2 ∧ FrT B tP w w' := by
  have Hc := hide (ledPost_any B p s id day v ls w va vt tv h hl)
  obtain ⟨ao, cap, rfl⟩ := hl.form
  obtain ⟨⟨x, s'⟩, hr⟩ : ∃ r, pst s id day ls = r := ⟨_, rfl⟩
  rw [hr] at Hc ⊢
  clear h hr hl
  simp only at Hc ⊢
  go_enter Tryz.func66, Tryz.ntmps66
  go_wp2_with fail
  refine (unhide Hc).mono ?_
  rintro e w1 ⟨rfl, h1, h2⟩
  have H1 := hide h1
  have H2 := hide h2
  clear h1 h2
  go_wp2_with fail
  go_ret
  exact ⟨rfl, unhide H1, unhide H2⟩

end Go.Proofs.YtpcdkhmahbecaaaGreatDoor
