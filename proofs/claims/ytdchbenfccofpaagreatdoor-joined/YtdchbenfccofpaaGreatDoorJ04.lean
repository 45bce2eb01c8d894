/- Walks of the books: the program's Post. Lists of lines that are made and copied: laws for elements of two cells. Walks of the books: the document's looks at lines. Walks of the books: the document's old and refused. Walks of the books: the document's Close. Walks of the books: the document's Post. Texts with a sign between each two. Walks of the books: Accounts. -/
import Derived.Test.YtdchbenfccofpaaGreatDoorJ03
import Derived.Laws.CopyOwn
import Derived.Laws.MakeOwn
import Derived.Test.YtdchbenfccofpaaGreatDoorJ01
namespace Go.Proofs.YtdchbenfccofpaaGreatDoor
open Go.RowKit Db

theorem info_line : (Tryz.prog.info? 89).map (fun i => (i.zero, i.size, i.bytes)) = some (some (.agg #[.int .i64 0, .int .i64 0]), 2, 16) := by kernel_rfl
theorem info_tx : (Tryz.prog.info? 148).map (fun i => (i.zero, i.size, i.bytes)) = some (some (.agg #[.int .i64 0, .int .i64 0, .slice none 0 0]), 3, 40) := by kernel_rfl

theorem pst_id {s : Bk} {id day : Int} {ls : List Ln} (h : id < 0 ∨ 9999 < id) : pst s id day ls = (12, s) := by unfold pst; rw [if_pos h]
theorem pst_old {s : Bk} {id day : Int} {ls : List Ln} {t : Tn} (h : ¬ (id < 0 ∨ 9999 < id)) (hf : findT id s.txs = some t) : pst s id day ls = (repE t.2.1 day t.2.2 ls, s) := by unfold pst; rw [if_neg h, hf]; rfl
theorem pst_day {s : Bk} {id day : Int} {ls : List Ln} (h : ¬ (id < 0 ∨ 9999 < id)) (hf : findT id s.txs = none) (hd : day < 0 ∨ 999 < day) : pst s id day ls = (14, s) := by unfold pst; rw [if_neg h, hf]; simp only; rw [if_pos hd]
theorem pst_bad {s : Bk} {id day : Int} {ls : List Ln} (h : ¬ (id < 0 ∨ 9999 < id)) (hf : findT id s.txs = none) (hd : ¬ (day < 0 ∨ 999 < day)) (hl : ¬ lnsE s ls = 0) : pst s id day ls = (lnsE s ls, s) := by unfold pst; rw [if_neg h, hf]; simp only; rw [if_neg hd, if_pos hl]
theorem pst_full {s : Bk} {id day : Int} {ls : List Ln} (h : ¬ (id < 0 ∨ 9999 < id)) (hf : findT id s.txs = none) (hd : ¬ (day < 0 ∨ 999 < day)) (hl : lnsE s ls = 0) (h64 : 64 ≤ s.txs.length) : pst s id day ls = (11, s) := by unfold pst; rw [if_neg h, hf]; simp only; rw [if_neg hd, if_neg (by simp [hl]), if_pos h64]
theorem pst_ok {s : Bk} {id day : Int} {ls : List Ln} (h : ¬ (id < 0 ∨ 9999 < id)) (hf : findT id s.txs = none) (hd : ¬ (day < 0 ∨ 999 < day)) (hl : lnsE s ls = 0) (h64 : ¬ 64 ≤ s.txs.length) : pst s id day ls = (0, { s with txs := s.txs ++ [(id, day, ls)] }) := by unfold pst; rw [if_neg h, hf]; simp only; rw [if_neg hd, if_neg (by simp [hl]), if_neg h64]

theorem cellsL_length (l : List Ln) : (cellsL l).length = l.length * 2 := by
  induction l with
  | nil => rfl
  | cons a r ih => simp only [cellsL, List.flatMap_cons, List.length_append, List.length_cons, List.length_nil] at ih ⊢; omega
theorem cellsL_one (l : List Ln) : ∀ u ∈ cellsL l, u.oneCell' = true := by
  intro u hu
  simp only [cellsL, List.mem_flatMap] at hu
  obtain ⟨a, _, hu⟩ := hu
  simp at hu
  rcases hu with rfl | rfl <;> rfl
theorem lines_cells {w : World} {b off : Nat} {ls : List Ln} (h : ∀ (i : Nat) (l : Ln), ls[i]? = some l → w.cell? ⟨b, off + i * 2, none⟩ = some (.int .i64 l.1) ∧ w.cell? ⟨b, off + i * 2 + 1, none⟩ = some (.int .i64 l.2)) :
    ∀ j u, (cellsL ls)[j]? = some u → w.cell? ((⟨b, off, none⟩ : Addr).add j) = some u := by
  intro j u hj
  rw [Addr.add_lit]
  have hlt : j < ls.length * 2 := by rw [← cellsL_length]; exact (List.getElem?_eq_some_iff.1 hj).1
  obtain ⟨l, hl⟩ : ∃ l, ls[j / 2]? = some l := ⟨ls[j / 2]'(by omega), List.getElem?_eq_getElem _⟩
  have h2 := two_get (fun x : Ln => Value.int .i64 x.1) (fun x => .int .i64 x.2) ls (j / 2) l hl
  have h3 := h (j / 2) l hl
  rcases Nat.mod_two_eq_zero_or_one j with hm | hm
  · rw [show j = j / 2 * 2 by omega] at hj ⊢
    rw [show (j / 2 * 2) = j / 2 * 2 from rfl] at hj
    have := h2.1
    unfold cellsL at hj
    rw [this] at hj
    cases hj
    exact h3.1
  · have e : j = j / 2 * 2 + 1 := by omega
    rw [e] at hj ⊢
    have := h2.2
    unfold cellsL at hj
    rw [this] at hj
    cases hj
    exact h3.2
theorem below_of_none {w w' : World} (h : w.grownBy w' none) : Below w.heap.size w w' := ⟨h.os, h.tape, h.output, h.size, fun k hk => h.block k hk (by simp)⟩

/-- One transaction more. -/
theorem LedAt.post {w w5 : World} {B p : Nat} {va vt vt' v2 : Value} {tv : List (Tn × Value)} {d : Dk} {s s' : Bk} {t : Tn} (h : LedAt w B p va vt tv d s) (o : Obj) (hv : w.ownsRow B 89 2 v2 t.2.2.length (cellsL t.2.2)) (hgr : (w.alloc o).grownBy w5 vt.ownBlock) (hblk : Blk w5 p #[va, vt, .int .i64 d.u, d.vw] 102)
    (hown : w5.ownsRow B 148 3 vt' (tv.length + 1) (cellsT (tv ++ [(t, v2)]))) (hs : s'.txs = s.txs ++ [t]) (ha : s'.acs = s.acs) (hg : BkGood s') (hcn : cnt s ≤ cnt s') :
    LedAt (w5.setCell ⟨p, 1, none⟩ vt') B p va vt' (tv ++ [(t, v2)]) d s' ∧ FrT B tP w (w5.setCell ⟨p, 1, none⟩ vt') := by
  have f1 : FrT B [148] w w5 := ((FrT.refl _ _ w).alloc o).grown hgr (T := 148) (by simp) (fun k hk => ⟨(ownsRow_tg h.txs.own k hk).1, tg_alloc (ownsRow_tg h.txs.own k hk).2 o⟩)
  have f2 : FrT B [102] w5 (w5.setCell ⟨p, 1, none⟩ vt') := (FrT.refl _ _ w5).setCell (T := 102) (by simp) hblk.tg h.lo _
  refine ⟨⟨?_, h.lo, ?_, ⟨?_, ?_⟩, ?_, hg, ownsRow_frT (ownsRow_frT h.dsk f1 (by decide)) f2 (by decide), h.dlen, Nat.le_trans h.dcnt hcn⟩, (f1.mono (by simp [tP])).trans (f2.mono (by simp [tP]))⟩
  · have := hblk.set 1 vt'
    simpa using this
  · rw [ha]; exact ownsRow_frT (ownsRow_frT h.acs f1 (by decide)) f2 (by decide)
  · have := ownsRow_frT hown f2 (by decide)
    simpa using this
  · intro x hx
    rcases List.mem_append.1 hx with hx | hx
    · exact ownsRow_frT (ownsRow_frT (h.txs.lns x hx) f1 (by decide)) f2 (by decide)
    · simp only [List.mem_singleton] at hx
      subst hx
      exact ownsRow_frT (ownsRow_frT hv f1 (by decide)) f2 (by decide)
  · rw [hs, ← h.jr]; simp

/-- The book behind a Post: its lists of lines are those that it had, or new. -/
def LedN (w0 : World) (tv : List (Tn × Value)) (w : World) (B p : Nat) (d : Dk) (s : Bk) : Prop := ∃ va' vt' tv', LedAt w B p va' vt' tv' d s ∧ ∀ x ∈ tv', x ∈ tv ∨ ∀ k, x.2.ownBlock = some k → w0.heap.size ≤ k
theorem LedN.same {w0 w : World} {B p : Nat} {va vt : Value} {tv : List (Tn × Value)} {d : Dk} {s : Bk} (h : LedAt w B p va vt tv d s) : LedN w0 tv w B p d s := ⟨va, vt, tv, h, fun _ hx => .inl hx⟩
theorem LedN.led {w0 w : World} {B p : Nat} {tv : List (Tn × Value)} {d : Dk} {s : Bk} (h : LedN w0 tv w B p d s) : Led w B p s := by
  obtain ⟨va, vt, tv', h, _⟩ := h; exact ⟨va, vt, tv', d, h⟩

/-- Has the journal a new transaction behind a Post? -/
def isN (s : Bk) (id day : Int) (ls : List Ln) : Bool := decide (s.txs.length < (pst s id day ls).2.txs.length)
theorem isN_no {s : Bk} {id day : Int} {ls : List Ln} (h : (pst s id day ls).2 = s) : isN s id day ls = false := by unfold isN; rw [h]; simp
theorem isN_yes {s : Bk} {id day : Int} {ls : List Ln} (h : (pst s id day ls).2 = { s with txs := s.txs ++ [(id, day, ls)] }) : isN s id day ls = true := by unfold isN; rw [h]; simp

set_option maxRecDepth 100000 in
set_option maxHeartbeats 4000000 in
theorem ledPost_any (B p : Nat) (s : Bk) (id day : Int) (v : Value) (ls : List Ln) (w : World) (va vt : Value) (tv : List (Tn × Value)) (d : Dk) (h : LedAt w B p va vt tv d s) (hl : LinesAt w v ls) :
    Calls Tryz.prog 105 #[.pointer (some ⟨p, 0, none⟩), .int .i64 id, .int .i64 day, v] w fun e w' => e = .returned (.tuple #[.bool (isN s id day ls), .int .i64 (pst s id day ls).1]) ∧ LedN w tv w' B p d (pst s id day ls).2 ∧ FrT B tP w w' := by
  obtain ⟨ao, cap, rfl⟩ := hl.form
  obtain ⟨ii, hi, hz0, hz1, hz2⟩ := info_parts info_line
  obtain ⟨jj, hj, hy0, hy1, hy2⟩ := info_parts info_tx
  have H := hide h
  have Hl := hide hl
  by_cases hid : id < 0 ∨ 9999 < id
  · rw [isN_no (by rw [pst_id hid]), pst_id hid]
    clear h hl
    by_cases hneg : id < 0
    · go_enter Tryz.func105, Tryz.ntmps105
      go_wp2_with fail
      go_ret2
      exact ⟨rfl, .same (unhide H), FrT.refl _ _ _⟩
    · have hgt : 9999 < id := by omega
      go_enter Tryz.func105, Tryz.ntmps105
      go_wp2_with fail
      go_ret2
      exact ⟨rfl, .same (unhide H), FrT.refl _ _ _⟩
  · have h0 : ¬ id < 0 := by omega
    have h9 : ¬ 9999 < id := by omega
    have Hf := hide (find_any B p s id va vt tv d w h)
    clear h hl
    cases hfd : findT id s.txs with
    | some t =>
      rw [isN_no (by rw [pst_old hid hfd]), pst_old hid hfd]
      rw [hfd] at Hf
      obtain ⟨x, hx⟩ : ∃ x, repE t.2.1 day t.2.2 ls = x := ⟨_, rfl⟩
      rw [hx]
      have Hx := hide hx
      clear hx hfd
      go_enter Tryz.func105, Tryz.ntmps105
      go_wp2_with fail
      refine (unhide Hf).mono ?_
      rintro e w1 ⟨⟨t1, v1, ht1, hm1, rfl⟩ | ⟨ht1, _⟩, hb1⟩
      · simp only [Option.some.injEq] at ht1
        subst ht1
        have hln := ((unhide H).kept hb1).txs.lns _ hm1
        have h4 : t.2.2.length ≤ 4 := by
          have : t ∈ s.txs := by rw [← (unhide H).jr]; exact List.mem_map_of_mem hm1
          exact ((unhide H).good.tx t this).2.2.2.2.1
        obtain ⟨ti, td, tl⟩ := t
        simp only at hln h4 Hx
        obtain ⟨aol, capl, rfl⟩ := ownsRow_form hln
        have Hln := hide hln
        have Hb1 := hide hb1
        have hsz1 := hb1.size
        clear hm1 hb1 hln
        go_wp2_with fail
        refine (repeated_any ti td day tl ls _ _ _ (by exact (LinesAt.of_own (unhide Hln)).kept ((Below.refl _ _).alloc (Nat.le_refl _) _)) (by exact (unhide Hl).kept ((unhide Hb1).alloc hsz1 _)) h4).mono ?_
        rw [unhide Hx]
        rintro e w2 ⟨rfl, hb2⟩
        have Hb2 : Hid (Below w.heap.size w w2) := ((unhide Hb1).alloc hsz1 _).then' (by simp; omega) hb2
        clear hb2
        go_wp2_with fail
        go_ret2
        exact ⟨rfl, .same ((unhide H).kept (unhide Hb2)), FrT.of_below (unhide Hb2)⟩
      · cases ht1
    | none =>
      rw [hfd] at Hf
      by_cases hd : day < 0 ∨ 999 < day
      · rw [isN_no (by rw [pst_day hid hfd hd]), pst_day hid hfd hd]
        clear hfd
        by_cases hneg : day < 0
        all_goals
          go_enter Tryz.func105, Tryz.ntmps105
          go_wp2_with fail
          refine (unhide Hf).mono ?_
          rintro e w1 ⟨⟨t1, v1, ht1, _, _⟩ | ⟨_, rfl⟩, hb1⟩
          · cases ht1
          have Hb1 := hide hb1
          have hsz1 := hb1.size
          clear hb1
          have hor : ¬ day < 0 → 999 < day := fun h => by omega
          go_wp2_with fail
          go_ret2
          exact ⟨rfl, .same ((unhide H).kept ((unhide Hb1).alloc hsz1 _)), FrT.of_below ((unhide Hb1).alloc hsz1 _)⟩
      · have hd0 : ¬ day < 0 := by omega
        have hd9 : ¬ 999 < day := by omega
        have Hc := hide (fun (wx : World) (hb : Below w.heap.size w wx) => checkLines_any B p s _ ls wx ⟨_, _, _, _, (unhide H).kept hb⟩ ((unhide Hl).kept hb))
        by_cases hlz : lnsE s ls = 0
        · have Hcc : Hid (∀ (wx : World), Below w.heap.size w wx → Calls Tryz.prog 144 #[.pointer (some ⟨p, 0, none⟩), .slice ao ls.length cap] wx fun e w' => e = .returned (.int .i64 0) ∧ Below wx.heap.size wx w') := by
            intro wx hb; have := unhide Hc wx hb; rw [hlz] at this; exact this
          obtain ⟨aot, capt, rfl⟩ := ownsRow_form (unhide H).txs.own
          have hjl : tv.length = s.txs.length := by rw [← (unhide H).jr, List.length_map]
          have hgp := (unhide H).good.posts
          by_cases h64 : 64 ≤ s.txs.length
          · rw [isN_no (by rw [pst_full hid hfd hd hlz h64]), pst_full hid hfd hd hlz h64]
            have h64' : 64 ≤ tv.length := by omega
            clear hfd hlz Hc hjl hgp h64
            go_enter Tryz.func105, Tryz.ntmps105
            go_wp2_with fail
            refine (unhide Hf).mono ?_
            rintro e w1 ⟨⟨t1, v1, ht1, _, _⟩ | ⟨_, rfl⟩, hb1⟩
            · cases ht1
            have Hb1 := hide hb1
            have hsz1 := hb1.size
            clear hb1
            go_wp2_with fail
            refine (unhide Hcc _ (by exact (unhide Hb1).alloc hsz1 _)).mono ?_
            rintro e w2 ⟨rfl, hb2⟩
            have Hb2 : Hid (Below w.heap.size w w2) := ((unhide Hb1).alloc hsz1 _).then' (by simp; omega) hb2
            have H2 := hide ((unhide H).kept (unhide Hb2))
            have c1 := (unhide H2).blk.cell 1
            simp only [List.getElem?_toArray, List.getElem?_cons_zero, List.getElem?_cons_succ] at c1
            clear hb2
            go_wp2_with fail
            go_ret2
            exact ⟨rfl, .same (unhide H2), FrT.of_below (unhide Hb2)⟩
          · have hok := pst_ok hid hfd hd hlz h64
            have Hgood : Hid (BkGood { s with txs := s.txs ++ [(id, day, ls)] }) := by
              have := BkGood.pst (unhide H).good id day ls
              rw [hok] at this
              exact this
            rw [isN_yes (by rw [hok]), hok]
            have h64' : tv.length < 64 := by omega
            have hl4 : ls.length ≤ 4 := (lnsE_ok (unhide H).good hlz).1
            have hl2 : 2 ≤ ls.length := by
              by_cases hx : ls.length < 2
              · rw [lnsE_15 (.inl hx)] at hlz; simp at hlz
              · omega
            obtain ⟨ao1, cap1, e1, hr⟩ := unhide Hl
            simp only [Value.slice.injEq, true_and] at e1
            obtain ⟨rfl, rfl⟩ := e1
            obtain ⟨b, off, rfl, hbl, hcs⟩ : ∃ b off, ao = some ⟨b, off, none⟩ ∧ b < w.heap.size ∧ ∀ (i : Nat) (l : Ln), ls[i]? = some l → w.cell? ⟨b, off + i * 2, none⟩ = some (.int .i64 l.1) ∧ w.cell? ⟨b, off + i * 2 + 1, none⟩ = some (.int .i64 l.2) := by
              rcases hr with rfl | hr
              · simp at hl2
              · exact hr
            have Hcs := hide (lines_cells hcs)
            have hBp := (unhide H).lo
            have hpl := (unhide H).blk.lt
            clear hfd hlz Hc hjl hgp h64 hok hr hcs
            go_enter Tryz.func105, Tryz.ntmps105
            go_wp2_with fail
            refine (unhide Hf).mono ?_
            rintro e w1 ⟨⟨t1, v1, ht1, _, _⟩ | ⟨_, rfl⟩, hb1⟩
            · cases ht1
            have Hb1 := hide hb1
            have hsz1 := hb1.size
            clear hb1
            go_wp2_with fail
            refine (unhide Hcc _ (by exact (unhide Hb1).alloc hsz1 _)).mono ?_
            rintro e w2 ⟨rfl, hb2⟩
            have Hb2 : Hid (Below w.heap.size w w2) := ((unhide Hb1).alloc hsz1 _).then' (by simp; omega) hb2
            have H2 := hide ((unhide H).kept (unhide Hb2))
            have c1 := (unhide H2).blk.cell 1
            have z1 := (unhide H2).blk.frozen 1
            have hsz2 := (unhide Hb2).size
            simp only [List.getElem?_toArray, List.getElem?_cons_zero, List.getElem?_cons_succ] at c1
            have Hcs2 : Hid (∀ j u, (cellsL ls)[j]? = some u → w2.cell? ((⟨b, off, none⟩ : Addr).add j) = some u) := by
              intro j u hju
              rw [← unhide Hcs j u hju, Addr.add_lit]
              exact (unhide Hb2).cell (p := ⟨b, off + j, none⟩) hbl
            clear hb2
            go_wp2_with (first
              | (at_builtin; refine wpList_append_own _ rfl (.tmp 49) (.tmp 50) 31 rfl w2.heap.size 89 ii (.agg #[.int .i64 0, .int .i64 0]) 2 16 Tryz.underlying31 hi hz0 hz1 hz2 rfl (by decide) (.slice none 0 0) 0 [] rfl (World.ownsRow_nil _ _ _ _) ⟨b, off, none⟩ ls.length cap (cellsL ls) rfl (cellsL_length ls) (unhide Hcs2) (cellsL_one ls) (by unfold maxLen; omega) (by omega) (Nat.le_refl _) ?_; intro vk w3 hown3 hgr3 _; have hb3 := below_of_none hgr3; simp only [Nat.zero_add, List.nil_append] at hown3; obtain ⟨gk, ck, rfl, hgk, hgk'⟩ := ownsRow_some hown3 (by omega); have H3 := hide ((unhide H2).kept hb3); have c3 := (unhide H3).blk.cell 1; have z3 := (unhide H3).blk.frozen 1; have l3 := (unhide H3).blk.lt; simp only [List.getElem?_toArray, List.getElem?_cons_zero, List.getElem?_cons_succ] at c3; have Hown3 := hide (ownsRow_base hown3 (base' := B) (fun k hk => by have := (ownsRow_tg hown3 k hk).1; omega)); have Hb3 := hide ((unhide Hb2).then hb3); have hsz3 := hb3.size; clear hown3 hgr3 hb3)
              | (at_builtin; refine wpList_append_own _ rfl (.tmp 56) (.tmp 61) 96 rfl B 148 jj (.agg #[.int .i64 0, .int .i64 0, .slice none 0 0]) 3 40 Tryz.underlying96 hj hy0 hy1 hy2 rfl (by decide) (.slice aot tv.length capt) tv.length _ rfl ((unhide H3).txs.own.alloc _) ⟨w3.heap.size, 0, none⟩ 1 1 [.int .i64 id, .int .i64 day, .slice (some ⟨gk, 0, none⟩) ls.length ck] rfl rfl (new3 _ _ (by simp) _ _ _ _) (fun x hx => by simp at hx; rcases hx with rfl | rfl | rfl <;> rfl) (by unfold maxLen; omega) (by omega) (by simp; omega) ?_; intro vq' w5 hown5 hgr5 _; obtain ⟨gf, cf, rfl, hgf, hgf'⟩ := ownsRow_some hown5 (Nat.succ_pos _); have hblk5 := ((unhide H3).blk.alloc _).grown hgr5 (blk_own_ne (unhide H3).blk (unhide H3).txs.own (by decide)); have c5 := hblk5.cell 1; have z5 := hblk5.frozen 1; have l5 := hblk5.lt; simp only [List.getElem?_toArray, List.getElem?_cons_zero, List.getElem?_cons_succ] at c5; have Hblk5 := hide hblk5; have Hown5 := hide hown5; have Hgr5 := hide hgr5; clear hblk5 hown5 hgr5))
            go_ret2
            have hfin := (unhide H3).post _ (t := (id, day, ls)) (unhide Hown3) (unhide Hgr5) (unhide Hblk5) (s' := { s with txs := s.txs ++ [(id, day, ls)] }) (by rw [cellsT_snoc]; exact unhide Hown5) rfl rfl (unhide Hgood) (by unfold cnt; simp)
            refine ⟨rfl, ⟨_, _, _, hfin.1, ?_⟩, (FrT.of_below (unhide Hb3)).trans hfin.2⟩
            intro x hx
            rcases List.mem_append.1 hx with hx | hx
            · exact .inl hx
            · right
              simp only [List.mem_singleton] at hx
              subst hx
              intro k hk
              simp only [Value.ownBlock, Option.some.injEq] at hk
              omega
        · obtain ⟨x, hx⟩ : ∃ x, lnsE s ls = x := ⟨_, rfl⟩
          rw [isN_no (by rw [pst_bad hid hfd hd hlz]), pst_bad hid hfd hd hlz]
          rw [hx] at Hc hlz ⊢
          have hxe : (x == 0) = false := by simpa using hlz
          clear hfd hx
          go_enter Tryz.func105, Tryz.ntmps105
          go_wp2_with fail
          refine (unhide Hf).mono ?_
          rintro e w1 ⟨⟨t1, v1, ht1, _, _⟩ | ⟨_, rfl⟩, hb1⟩
          · cases ht1
          have Hb1 := hide hb1
          have hsz1 := hb1.size
          clear hb1
          go_wp2_with fail
          refine (unhide Hc _ (by exact (unhide Hb1).alloc hsz1 _)).mono ?_
          rintro e w2 ⟨rfl, hb2⟩
          have Hb2 : Hid (Below w.heap.size w w2) := ((unhide Hb1).alloc hsz1 _).then' (by simp; omega) hb2
          clear hb2
          go_wp2_with fail
          go_ret2
          exact ⟨rfl, .same ((unhide H).kept (unhide Hb2)), FrT.of_below (unhide Hb2)⟩

end Go.Proofs.YtdchbenfccofpaaGreatDoor
namespace Go.Proofs.YtdchbenfccofpaaGreatDoor
open Go.RowKit Db

theorem run_copy2 {P : Program} (w : World) (dT sT ty elem : TypeId) (g o dLen dCap : Nat) (a : Addr) (sLen sCap : Nat) (cur : Array Value) (t : TypeId) (cs : List Value)
    (hu : P.underlying dT = some (.slice elem)) (hs : (P.info? elem).map (·.size) = some 2)
    (hg : w.heap[g]? = some (.cells cur t (0, 0))) (hn : cs.length = Nat.min sLen dLen * 2)
    (hsrc : ∀ j v, cs[j]? = some v → w.cell? (a.add j) = some v) (hfit : o + cs.length ≤ cur.size) (h1 : ∀ v ∈ cs, v.oneCell' = true) :
    (Builtin.copy_ #[dT, sT] ty #[.slice (some ⟨g, o, none⟩) dLen dCap, .slice (some a) sLen sCap]).run P w =
      .ok (goInt (Nat.min sLen dLen)) (w.setRow g (cur.toList.take o ++ cs ++ cur.toList.drop (o + cs.length)).toArray) := by
  have hl := run_loadCells_list (P := P) w a cs hsrc
  have hst := run_storeCells_at P g o t cs 0 cur w hg (by simpa using hfit) h1
  cases hq : P.info? elem with
  | none => simp [hq] at hs
  | some i =>
    have hi : i.size = 2 := by simpa [hq] using hs
    simp [Builtin.copy_, run_underlying hu, Builtin.lenOf, Builtin.firstCells, sizeOf, typeInfo, hq, hi, ← hn, hl, hst]
theorem run_copy2_none {P : Program} (w : World) (dT sT ty elem : TypeId) (d a : Option Addr) (dLen dCap sLen sCap : Nat) (hu : P.underlying dT = some (.slice elem)) (hs : (P.info? elem).map (·.size) = some 2) (hn : Nat.min sLen dLen = 0) :
    (Builtin.copy_ #[dT, sT] ty #[.slice d dLen dCap, .slice a sLen sCap]).run P w = .ok (goInt 0) w := by
  cases hq : P.info? elem with
  | none => simp [hq] at hs
  | some i =>
    have hl : ∀ (x : Addr), (loadCells x 0).run P w = .ok #[] w := fun x => by simpa using run_loadCells_list (P := P) w x [] (by simp)
    cases d <;> cases a <;> simp [Builtin.copy_, run_underlying hu, Builtin.lenOf, Builtin.firstCells, sizeOf, typeInfo, hq, hn, storeCells, hl]
/-- copy of a whole list of lines into a row that the call made. -/
theorem wpList_copy2 {P : Program} {w : World} {ops : Array Oper} {rest : List Oper} {o : Oper} {a : Act} {Q : Exit → Act → World → Prop} (hgd : o.guard = none) (d s : Operand) (dT sT : TypeId)
    (ho : o.op = .call { callee := .builtin .copy, args := #[d, s], argTypes := #[dT, sT] }) (elem : TypeId) (hu : P.underlying dT = some (.slice elem)) (hsz : (P.info? elem).map (·.size) = some 2)
    (g dLen dCap : Nat) (ad : Option Addr) (sLen sCap : Nat) (hd : a.eval d = .slice (some ⟨g, 0, none⟩) dLen dCap) (hs : a.eval s = .slice ad sLen sCap)
    (cur : Array Value) (t : TypeId) (hg : w.heap[g]? = some (.cells cur t (0, 0))) (cs : List Value) (hn : cs.length = sLen * 2) (hle : sLen ≤ dLen)
    (hsrc : sLen = 0 ∨ ∃ ad', ad = some ad' ∧ ∀ j v, cs[j]? = some v → w.cell? (ad'.add j) = some v) (hfit : cs.length ≤ cur.size) (h1 : ∀ v ∈ cs, v.oneCell' = true)
    (h : ∀ w', w'.heap[g]? = some (.cells (cs ++ cur.toList.drop cs.length).toArray t (0, 0)) → (∀ k, k ≠ g → w'.heap[k]? = w.heap[k]?) → w'.heap.size = w.heap.size → w'.os = w.os → w'.tape = w.tape → w'.output = w.output → wpList P ops Q rest (a.put o.dst (goInt sLen)) w') : wpList P ops Q (o :: rest) a w := by
  refine wpList_plain hgd fun K hK => ?_
  have hmin : Nat.min sLen dLen = sLen := Nat.min_eq_left hle
  rcases hsrc with h0 | ⟨ad', rfl, hsrc⟩
  · subst h0
    obtain rfl : cs = [] := List.length_eq_zero_iff.1 (by omega)
    have hrun := run_copy2_none (P := P) w dT sT o.type elem (some ⟨g, 0, none⟩) ad dLen dCap 0 sCap hu hsz hmin
    unfold Oper.wp
    simp [execOp, ho, resolve, invoke, builtin, hd, hs, hrun, Result.andThen]
    exact hK _ _ (h w (by simpa using hg) (fun _ _ => rfl) rfl rfl rfl rfl)
  · have hrun := run_copy2 (P := P) w dT sT o.type elem g 0 dLen dCap ad' sLen sCap cur t cs hu hsz hg (by rw [hmin]; exact hn) hsrc (by omega) h1
    rw [hmin] at hrun
    unfold Oper.wp
    simp [execOp, ho, resolve, invoke, builtin, hd, hs, hrun, Result.andThen]
    refine hK _ _ (h _ ?_ (fun k hk => setRow_other w g k _ hk) (by simp [World.setRow]) rfl rfl rfl)
    rw [setRow_heap w g cur _ t _ hg]
/-- make of a list of lines. -/
theorem run_make2 (n : Nat) (h : n ≤ 17592186044416) (w : World) :
    (Instr.makeSlice 31 (.int .i64 (n : Int)) (.int .i64 (n : Int))).run Tryz.prog w = .ok (.slice (some ⟨w.heap.size, 0, none⟩) n n) (w.alloc (.cells (madeCells #[.int .i64 0, .int .i64 0] (n * 2)) 89)) := by
  obtain ⟨ii, hi, hz0, hz1, hz2⟩ := info_parts info_line
  have := run_make (P := Tryz.prog) w 31 89 ii (.agg #[.int .i64 0, .int .i64 0]) Tryz.underlying31 hi hz0 .i64 .i64 n n (by omega) (Int.le_refl _) (by rw [hz2]; omega) (by omega)
  rw [hz1, show (Value.agg #[.int .i64 0, .int .i64 0]).cells = #[.int .i64 0, .int .i64 0] from rfl] at this
  simpa using this

end Go.Proofs.YtdchbenfccofpaaGreatDoor
namespace Go.Proofs.YtdchbenfccofpaaGreatDoor
open Go.RowKit Db

def sameB (a b : List Ln) : Bool := decide (a = b)

set_option maxRecDepth 100000 in
set_option maxHeartbeats 2000000 in
theorem alike_any (ls ls' : List Ln) (v v' : Value) (w : World) (h : LinesAt w v ls) (h' : LinesAt w v' ls') (h4 : ls.length ≤ 4) :
    Calls Tryz.prog 74 #[v, v'] w fun e w' => e = .returned (.bool (sameB ls ls')) ∧ ∃ n, w' = w.drewN n := by
  obtain ⟨ao, cap, rfl⟩ := h.form
  obtain ⟨ao', cap', rfl⟩ := h'.form
  have H := hide h
  have H' := hide h'
  clear h h'
  by_cases hlen : ls.length = ls'.length
  · have he : ((ls.length : Int) != (ls'.length : Int)) = false := by simp; omega
    have Hlen := hide hlen
    have h4' : ls'.length ≤ 4 := by omega
    clear hlen
    go_enter Tryz.func74, Tryz.ntmps74
    go_wp2_with fail
    go_loopg [5] ls.length (fun m i wr => ∃ j n : Nat, j ≤ ls.length ∧ m = ls.length - j ∧ i = .int .i64 j ∧ Hid (ls.take j = ls'.take j) ∧ wr = w.drewN n)
    case atStart => exact ⟨0, 0, by omega, rfl, rfl, rfl, rfl⟩
    case round =>
      obtain ⟨j, n, hj, rfl, rfl, Ho, rfl⟩ := hrel
      by_cases hlt : j < ls.length
      · obtain ⟨⟨la, lm⟩, hl⟩ : ∃ l, ls[j]? = some l := ⟨ls[j], List.getElem?_eq_getElem hlt⟩
        obtain ⟨⟨ra, rm⟩, hr⟩ : ∃ l, ls'[j]? = some l := ⟨ls'[j]'(by rw [← unhide Hlen]; exact hlt), List.getElem?_eq_getElem _⟩
        obtain ⟨_, b, off, rfl, hbl, d1, d2⟩ := (unhide H).line hl
        obtain ⟨_, b', off', rfl, hbl', f1, f2⟩ := (unhide H').line hr
        have hlt' : j < ls'.length := by have := unhide Hlen; omega
        have Hl := hide hl
        have Hr := hide hr
        simp only at d1 d2 f1 f2
        clear hl hr
        by_cases hsame : la = ra ∧ lm = rm
        · obtain ⟨rfl, rfl⟩ := hsame
          go_upto_region 6 with fail
          go_quiet (fail)
          go_wp2_with fail
          go_roundg (ls.length - (j + 1))
          case measure => omega
          case rel => exact ⟨j + 1, _, by omega, rfl, by go_num, take_more (unhide Ho) (unhide Hl) (unhide Hr), by first | rfl | exact (World.drewN_drewN _ _ _)⟩
        · have Hno : Hid (false = sameB ls ls') := by
            show _ = _
            unfold sameB
            rw [eq_comm, decide_eq_false_iff_not]
            intro e
            have h1 := unhide Hl
            have h2 := unhide Hr
            rw [e, h2] at h1
            simp only [Option.some.injEq, Prod.mk.injEq] at h1
            exact hsame ⟨h1.1.symm, h1.2.symm⟩
          by_cases hra : la = ra
          · subst hra
            have hrm : (lm == rm) = false := by simpa using hsame
            have hrm2 : ¬ lm = rm := by simpa using hrm
            clear hsame
            go_upto_region 6 with fail
            go_quiet (fail)
            go_wp2_with fail
            go_ret
            exact ⟨retB' (unhide Hno), _, by first | rfl | exact (World.drewN_drewN _ _ _)⟩
          · have hrm : (la == ra) = false := by simpa using hra
            clear hsame
            go_upto_region 6 with fail
            go_quiet (fail)
            go_wp2_with fail
            go_ret
            exact ⟨retB' (unhide Hno), _, by first | rfl | exact (World.drewN_drewN _ _ _)⟩
      · obtain rfl : j = ls.length := by omega
        go_wp2_with fail
        go_ret
        refine ⟨retB' ?_, n, rfl⟩
        have h1 := unhide Ho
        rw [List.take_length, unhide Hlen, List.take_length] at h1
        unfold sameB
        simp [h1]
  · have he : ((ls.length : Int) != (ls'.length : Int)) = true := by simp; omega
    go_enter Tryz.func74, Tryz.ntmps74
    go_wp2_with fail
    go_ret
    refine ⟨retB' ?_, 0, rfl⟩
    unfold sameB
    rw [eq_comm, decide_eq_false_iff_not]
    intro e
    exact hlen (by rw [e])

set_option maxRecDepth 100000 in
set_option maxHeartbeats 2000000 in
theorem refAmounts_any (v : Value) (ls : List Ln) (w : World) (h : LinesAt w v ls) (h4 : ls.length ≤ 4) :
    Calls Tryz.prog 75 #[v] w fun e w' => e = .returned (.bool (!ls.any amtB)) ∧ w' = w := by
  obtain ⟨ao, cap, rfl⟩ := h.form
  have H := hide h
  clear h
  go_enter Tryz.func75, Tryz.ntmps75
  go_wp2_with fail
  go_loopg [3] ls.length (fun m i wr => ∃ j : Nat, j ≤ ls.length ∧ m = ls.length - j ∧ i = .int .i64 j ∧ Hid ((ls.drop j).any amtB = ls.any amtB) ∧ wr = w)
  case atStart => exact ⟨0, by omega, rfl, rfl, rfl, rfl⟩
  case round =>
    obtain ⟨j, hj, rfl, rfl, Ho, rfl⟩ := hrel
    by_cases hlt : j < ls.length
    · obtain ⟨⟨la, lm⟩, hl⟩ : ∃ l, ls[j]? = some l := ⟨ls[j], List.getElem?_eq_getElem hlt⟩
      obtain ⟨_, b, off, rfl, hbl, d1, d2⟩ := (unhide H).line hl
      have Hst := hide (any_step (f := amtB) hl)
      simp only at d1 d2 Hst
      clear hl
      by_cases h0 : lm = 0
      · subst h0
        go_wp2_with fail
        go_ret
        exact ⟨retB' (by rw [← unhide Ho, unhide Hst]; simp [amtB]), rfl⟩
      · have hne : (lm == 0) = false := by simpa using h0
        by_cases h1 : lm < -1000000000000
        · go_wp2_with fail
          go_ret
          exact ⟨retB' (by rw [← unhide Ho, unhide Hst]; simp [amtB, h1]), rfl⟩
        · by_cases h2 : 1000000000000 < lm
          · go_wp2_with fail
            go_ret
            exact ⟨retB' (by rw [← unhide Ho, unhide Hst]; simp [amtB, h2]), rfl⟩
          · have hst2 : amtB (la, lm) = false := by unfold amtB; simp [hne]; omega
            go_wp2_with fail
            go_roundg (ls.length - (j + 1))
            case measure => omega
            case rel => exact ⟨j + 1, by omega, rfl, by go_num, by show _ = _; rw [← unhide Ho, unhide Hst, hst2]; simp, rfl⟩
    · obtain rfl : j = ls.length := by omega
      go_wp2_with fail
      go_ret
      exact ⟨retB' (by rw [← unhide Ho, List.drop_length]; rfl), rfl⟩

end Go.Proofs.YtdchbenfccofpaaGreatDoor
namespace Go.Proofs.YtdchbenfccofpaaGreatDoor
open Go.RowKit Db

def oldE (txs : List Tn) (id day : Int) (ls : List Ln) : Int × Bool := match findT id txs with | some t => (repE t.2.1 day t.2.2 ls, true) | none => (0, false)
theorem oldE_some {txs : List Tn} {id day : Int} {ls : List Ln} {t : Tn} (h : findT id txs = some t) : oldE txs id day ls = (repE t.2.1 day t.2.2 ls, true) := by unfold oldE; rw [h]
theorem oldE_none {txs : List Tn} {id day : Int} {ls : List Ln} (h : findT id txs = none) : oldE txs id day ls = (0, false) := by unfold oldE; rw [h]
theorem sameB_rep {td day : Int} {ls ls' : List Ln} : repE td day ls ls' = if sameB ls ls' && (td == day) then 0 else 13 := by
  unfold repE sameB
  by_cases h1 : td = day <;> by_cases h2 : ls = ls' <;> simp [h1, h2]

set_option maxRecDepth 100000 in
set_option maxHeartbeats 2000000 in
theorem old_any (B p : Nat) (s : Bk) (id day : Int) (v : Value) (ls : List Ln) (w : World) (h : Rfd w B p s) (hl : LinesAt w v ls) :
    Calls Tryz.prog 43 #[.pointer (some ⟨p, 0, none⟩), .int .i64 id, .int .i64 day, v] w fun e w' => e = .returned (.tuple #[.int .i64 (oldE s.txs id day ls).1, .bool (oldE s.txs id day ls).2]) ∧ Below w.heap.size w w' := by
  obtain ⟨vp, vc, vt, tv, h⟩ := h
  obtain ⟨aol0, capl0, rfl⟩ := hl.form
  obtain ⟨ao, cap, rfl⟩ := ownsRow_form h.txs.own
  have hlen : tv.length ≤ 64 := by have := h.good.posts; rw [← h.jr, List.length_map] at this; exact this
  have Hjr := hide h.jr
  have H := hide h
  have HL := hide hl
  obtain ⟨⟨rx, rb⟩, hr⟩ : ∃ r, oldE s.txs id day ls = r := ⟨_, rfl⟩
  rw [hr]
  have Hr := hide hr
  clear h hl hr
  simp only
  go_enter Tryz.func43, Tryz.ntmps43
  go_wp2_with fail
  go_loopg [10] tv.length (fun m i wr => ∃ j : Nat, j ≤ tv.length ∧ m = tv.length - j ∧ i = .int .i64 j ∧ Hid (findT id (s.txs.drop j) = findT id s.txs) ∧ Hid (Below w.heap.size w wr))
  case atStart => exact ⟨0, by omega, rfl, rfl, rfl, Below.refl _ _⟩
  case round =>
    obtain ⟨j, hj, rfl, rfl, Ho, Hb⟩ := hrel
    have hsz := (unhide Hb).size
    have H1 := hide ((unhide H).kept (unhide Hb))
    have c2 := (unhide H1).blk.cell 2
    have hlb := (unhide H1).blk.lt
    simp only [List.getElem?_toArray, List.getElem?_cons_zero, List.getElem?_cons_succ] at c2
    by_cases hlt : j < tv.length
    · obtain ⟨⟨t, v⟩, ht⟩ : ∃ t, tv[j]? = some t := ⟨tv[j], List.getElem?_eq_getElem hlt⟩
      obtain ⟨g, _, e1, hg, hg'⟩ := ownsRow_some (unhide H1).txs.own (by omega)
      simp only [Value.slice.injEq, true_and] at e1
      obtain ⟨rfl, rfl⟩ := e1
      have h3 := three_get (fun x : Tn × Value => Value.int .i64 x.1.1) (fun x => .int .i64 x.1.2.1) (fun x => x.2) tv j (t, v) ht
      have d0 := ownsRow_cell (unhide H1).txs.own (j := j * 3) h3.1
      have d1 := ownsRow_cell (unhide H1).txs.own (j := j * 3 + 1) h3.2.1
      have d2 := ownsRow_cell (unhide H1).txs.own (j := j * 3 + 2) h3.2.2
      have hln := (unhide H1).txs.lns _ (List.mem_of_getElem? ht)
      have hst : s.txs[j]? = some t := by rw [← unhide Hjr, List.getElem?_map, ht]; rfl
      have h4 := ((unhide H).good.tx t (List.mem_of_getElem? hst)).2.2.2.2.1
      have Hst := hide (findT_step (id := id) hst)
      obtain ⟨ti, td, tl⟩ := t
      simp only at d0 d1 d2 hln Hst h4
      obtain ⟨aol, capl, rfl⟩ := ownsRow_form hln
      have Hln := hide hln
      clear h3 hln hst ht
      by_cases hid : ti = id
      · subst hid
        have Hrr : Hid (rx = repE td day tl ls ∧ rb = true) := by
          have h1 := (unhide Hr).symm.trans (oldE_some (t := (ti, td, tl)) (by rw [← unhide Ho, unhide Hst]; simp))
          exact (by simpa using h1 : rx = repE td day tl ls ∧ rb = true)
        obtain ⟨hrx, rfl⟩ := unhide Hrr
        rw [sameB_rep] at hrx
        have Hrx := hide hrx
        clear hrx Hrr
        go_wp2_with fail
        refine (alike_any tl ls _ _ _ (by exact (LinesAt.of_own (unhide Hln)).kept ((Below.refl _ _).alloc (Nat.le_refl _) _)) (by exact (unhide HL).kept ((unhide Hb).alloc hsz _)) h4).mono ?_
        rintro e w2 ⟨rfl, n, rfl⟩
        have HbF : Hid (Below w.heap.size w ((wr.alloc (Obj.cells #[Value.int IntKind.i64 ti, Value.int IntKind.i64 td, Value.slice aol tl.length capl] 87)).drewN n)) := ((unhide Hb).alloc hsz _).drewN _
        cases hsb : sameB tl ls with
        | false =>
          have hx : rx = 13 := by rw [unhide Hrx, hsb]; simp
          subst hx
          clear hsb
          go_wp2_with fail
          go_ret2
          exact ⟨rfl, unhide HbF⟩
        | true =>
          by_cases htd : td = day
          · subst htd
            have hx : rx = 0 := by rw [unhide Hrx, hsb]; simp
            subst hx
            clear hsb
            go_wp2_with fail
            go_ret2
            exact ⟨rfl, unhide HbF⟩
          · have hne : (td == day) = false := by simpa using htd
            have hx : rx = 13 := by rw [unhide Hrx, hsb, hne]; simp
            subst hx
            clear hsb
            go_wp2_with fail
            go_ret2
            exact ⟨rfl, unhide HbF⟩
      · have hne : (ti == id) = false := by simpa using hid
        go_wp2_with fail
        go_roundg (tv.length - (j + 1))
        case measure => omega
        case rel => exact ⟨j + 1, by omega, rfl, by go_num, by show _ = _; rw [← unhide Ho, unhide Hst, hne]; simp, (unhide Hb).alloc hsz _⟩
    · obtain rfl : j = tv.length := by omega
      have hrr : (rx, rb) = (0, false) := (unhide Hr).symm.trans (oldE_none (by rw [← unhide Ho, List.drop_of_length_le (by rw [← unhide Hjr, List.length_map]; exact Nat.le_refl _)]; rfl))
      simp only [Prod.mk.injEq] at hrr
      obtain ⟨rfl, rfl⟩ := hrr
      go_wp2_with fail
      go_ret2
      exact ⟨rfl, unhide Hb⟩

/-- What the document says against a new transaction. -/
def refE (s : Bk) (day : Int) (ls : List Ln) : Int := if day < 0 ∨ 999 < day then 14 else if ¬ lnsE s ls = 0 then lnsE s ls else if 64 ≤ s.txs.length then 11 else 0
theorem refE_14 {s : Bk} {day : Int} {ls : List Ln} (h : day < 0 ∨ 999 < day) : refE s day ls = 14 := if_pos h
theorem refE_l {s : Bk} {day : Int} {ls : List Ln} {x : Int} (h : ¬ (day < 0 ∨ 999 < day)) (hl : lnsE s ls = x) (hx : ¬ x = 0) : refE s day ls = x := by unfold refE; rw [if_neg h, hl, if_pos hx]
theorem refE_11 {s : Bk} {day : Int} {ls : List Ln} (h : ¬ (day < 0 ∨ 999 < day)) (hl : lnsE s ls = 0) (h64 : 64 ≤ s.txs.length) : refE s day ls = 11 := by unfold refE; rw [if_neg h, if_neg (by simp [hl]), if_pos h64]
theorem refE_0 {s : Bk} {day : Int} {ls : List Ln} (h : ¬ (day < 0 ∨ 999 < day)) (hl : lnsE s ls = 0) (h64 : ¬ 64 ≤ s.txs.length) : refE s day ls = 0 := by unfold refE; rw [if_neg h, if_neg (by simp [hl]), if_neg h64]

set_option maxRecDepth 100000 in
set_option maxHeartbeats 4000000 in
theorem refused_any (B p : Nat) (s : Bk) (day : Int) (v : Value) (ls : List Ln) (w : World) (h : Rfd w B p s) (hl : LinesAt w v ls) :
    Calls Tryz.prog 44 #[.pointer (some ⟨p, 0, none⟩), .int .i64 day, v] w fun e w' => e = .returned (.int .i64 (refE s day ls)) ∧ ∃ n, w' = w.drewN n := by
  have Hthere := hide (fun (a : Int) (n : Nat) (h : Rfd (w.drewN n) B p s) => there_any B p s a (w.drewN n) h)
  obtain ⟨vp, vc, vt, tv, h⟩ := h
  obtain ⟨ao, cap, rfl⟩ := hl.form
  obtain ⟨g2, cap2, rfl, hg2, hg2'⟩ := ownsRow_some h.clo h.good.one
  obtain ⟨aot, capt, rfl⟩ := ownsRow_form h.txs.own
  have c1 := h.blk.cell 1
  have c2 := h.blk.cell 2
  have hlp := h.blk.lt
  simp only [List.getElem?_toArray, List.getElem?_cons_zero, List.getElem?_cons_succ] at c1 c2
  have hfew := h.good.few
  have H := hide h
  have HL := hide hl
  have HRf : Hid (∀ n, Rfd (w.drewN n) B p s) := fun n => ⟨_, _, _, _, (unhide H).kept ((Below.refl _ w).drewN n)⟩
  obtain ⟨r, hr⟩ : ∃ r, refE s day ls = r := ⟨_, rfl⟩
  rw [hr]
  have Hr := hide hr
  clear h hl hr
  by_cases hd : day < 0 ∨ 999 < day
  · obtain rfl : r = 14 := (unhide Hr).symm.trans (refE_14 hd)
    have h2 : (2 : Int) ≤ ls.length ∨ (ls.length : Int) < 2 := by omega
    by_cases hneg : day < 0
    · rcases h2 with h2 | h2
      · go_enter Tryz.func44, Tryz.ntmps44
        go_wp2_with fail
        go_ret
        exact ⟨rfl, 0, rfl⟩
      · go_enter Tryz.func44, Tryz.ntmps44
        go_wp2_with fail
        go_ret
        exact ⟨rfl, 0, rfl⟩
    · have hgt : 999 < day := by omega
      rcases h2 with h2 | h2
      · go_enter Tryz.func44, Tryz.ntmps44
        go_wp2_with fail
        go_ret
        exact ⟨rfl, 0, rfl⟩
      · go_enter Tryz.func44, Tryz.ntmps44
        go_wp2_with fail
        go_ret
        exact ⟨rfl, 0, rfl⟩
  have hd0 : ¬ day < 0 := by omega
  have hd9 : ¬ 999 < day := by omega
  by_cases hlen : ls.length < 2 ∨ 4 < ls.length
  · obtain rfl : r = 15 := (unhide Hr).symm.trans (refE_l hd (lnsE_15 hlen) (by simp))
    by_cases h2 : ls.length < 2
    · have h2' : (ls.length : Int) < 2 := by omega
      go_enter Tryz.func44, Tryz.ntmps44
      go_wp2_with fail
      go_ret
      exact ⟨rfl, 0, rfl⟩
    · have h2' : (2 : Int) ≤ (ls.length : Int) := by omega
      have h4' : decide ((ls.length : Int) ≤ 4) = false := by simp; omega
      go_enter Tryz.func44, Tryz.ntmps44
      go_wp2_with fail
      go_ret
      exact ⟨rfl, 0, rfl⟩
  have h2' : (2 : Int) ≤ (ls.length : Int) := by omega
  have h4' : (ls.length : Int) ≤ 4 := by omega
  have h4 : ls.length ≤ 4 := by omega
  have Hm := hide (refAmounts_any _ ls w (unhide HL) h4)
  cases ham : ls.any amtB with
  | true =>
    obtain rfl : r = 16 := (unhide Hr).symm.trans (refE_l hd (lnsE_16 hlen ham) (by simp))
    rw [ham] at Hm
    clear ham
    go_enter Tryz.func44, Tryz.ntmps44
    go_wp2_with fail
    refine (unhide Hm).mono ?_
    rintro e w1 ⟨rfl, rfl⟩
    go_wp2_with fail
    go_ret
    exact ⟨rfl, 0, rfl⟩
  | false =>
    rw [ham] at Hm
    have Ham := hide ham
    have Hab := hide (amt_ok ham)
    have Hlen := hide hlen
    clear ham hlen
    go_enter Tryz.func44, Tryz.ntmps44
    go_wp2_with fail
    refine (unhide Hm).mono ?_
    rintro e w1 ⟨rfl, rfl⟩
    go_wp2_with fail
    go_loopg [9, 10] ls.length (fun m vn i wr => ∃ j : Nat, ∃ x : Int, j ≤ ls.length ∧ m = ls.length - j ∧ i = .int .i64 j ∧ vn = .int .i64 x ∧ -(1000000000000 * (j : Int)) ≤ x ∧ x ≤ 1000000000000 * (j : Int) ∧ Hid (x + sumL (ls.drop j) = sumL ls) ∧ Hid ((ls.drop j).all (accB s) = ls.all (accB s)) ∧ wr = w1)
    case atStart => exact ⟨0, 0, by omega, rfl, rfl, rfl, by omega, by omega, by show _ = _; simp, rfl, rfl⟩
    case round =>
      obtain ⟨j, x, hj, rfl, rfl, rfl, hx0, hx1, Ho, Hac, hW⟩ := hrel
      subst hW
      by_cases hlt : j < ls.length
      · obtain ⟨⟨la, lm⟩, hlj⟩ : ∃ l, ls[j]? = some l := ⟨ls[j], List.getElem?_eq_getElem hlt⟩
        obtain ⟨_, b, off, rfl, hbl, d1, d2⟩ := (unhide HL).line hlj
        have Hst := hide (sumL_step hlj)
        have Hst2 := hide (all_step (f := accB s) hlj)
        have hb := unhide Hab _ (List.mem_of_getElem? hlj)
        have Hth := hide (unhide Hthere la 0 (unhide HRf 0))
        simp only at d1 d2 Hst hb Hst2
        clear hlj
        go_wp2_with fail
        refine (unhide Hth).mono ?_
        rintro e w2 ⟨rfl, rfl⟩
        cases hth : ther s la with
        | false =>
          obtain rfl : r = 7 := (unhide Hr).symm.trans (refE_l hd (lnsE_7 (unhide Hlen) (unhide Ham) (by rw [← unhide Hac, unhide Hst2]; unfold accB; simp [hth])) (by simp))
          clear hth
          go_wp2_with fail
          go_ret
          exact ⟨rfl, 0, rfl⟩
        | true =>
          by_cases hl0 : la = 0
          · subst hl0
            obtain rfl : r = 7 := (unhide Hr).symm.trans (refE_l hd (lnsE_7 (unhide Hlen) (unhide Ham) (by rw [← unhide Hac, unhide Hst2]; unfold accB; simp)) (by simp))
            clear hth
            go_wp2_with fail
            go_ret
            exact ⟨rfl, 0, rfl⟩
          · have hne : (la == 0) = false := by simpa using hl0
            have hacc : accB s (la, lm) = true := by unfold accB; simp [hth, hne]
            have hwr : IntKind.i64.wrap (x + lm) = x + lm := by rw [IntKind.wrap_i64]; omega
            have Hac2 : Hid ((ls.drop (j + 1)).all (accB s) = ls.all (accB s)) := by show _ = _; rw [← unhide Hac, unhide Hst2, hacc]; simp
            clear hth hacc
            go_wp2_with fail
            go_roundg (ls.length - (j + 1))
            case measure => omega
            case rel => exact ⟨j + 1, x + lm, by omega, rfl, by go_num, rfl, by omega, by omega, by show _ = _; have := unhide Ho; rw [unhide Hst] at this; omega, unhide Hac2, rfl⟩
      · obtain rfl : j = ls.length := by omega
        have hxs : x = sumL ls := by have := unhide Ho; rw [List.drop_length] at this; simpa [sumL] using this
        have Hxs := hide hxs
        have Hall : Hid (ls.all (accB s) = true) := by show _ = _; rw [← unhide Hac, List.drop_length]; rfl
        clear hxs Ho Hac
        obtain ⟨W0, hW0⟩ : ∃ W0, W0 = wr := ⟨_, rfl⟩
        subst hW0
        go_wp2_with fail
        go_loopg [12] ls.length (fun m i wx => ∃ j n : Nat, j ≤ ls.length ∧ m = ls.length - j ∧ i = .int .i64 j ∧ Hid (((ls.drop j).any fun l => clsd s l.1) = ls.any fun l => clsd s l.1) ∧ wx = W0.drewN n)
        case atStart => exact ⟨0, 0, by omega, rfl, rfl, rfl, rfl⟩
        case round =>
          obtain ⟨j, n, hj, rfl, rfl, Hc, hW⟩ := hrel
          subst hW
          by_cases hlt : j < ls.length
          · obtain ⟨⟨la, lm⟩, hlj⟩ : ∃ l, ls[j]? = some l := ⟨ls[j], List.getElem?_eq_getElem hlt⟩
            obtain ⟨_, b, off, rfl, hbl, d1, d2⟩ := (unhide HL).line hlj
            have Hst := hide (any_step (f := fun l : Ln => clsd s l.1) hlj)
            have hla := List.all_eq_true.1 (unhide Hall) _ (List.mem_of_getElem? hlj)
            unfold accB ther at hla
            simp only [Bool.and_eq_true, decide_eq_true_eq] at hla
            obtain ⟨k, rfl⟩ : ∃ k : Nat, la = k := ⟨la.toNat, by omega⟩
            have hk : k < s.acs.length := by omega
            obtain ⟨c, hc⟩ := acs_get hk
            have d3 := ownsRow_cell (unhide H).clo (j := k) (u := .bool c.2) (by rw [List.getElem?_map, hc]; rfl)
            have hcl := clsd_at hc
            simp only at d1 d2 Hst
            rw [hcl] at Hst
            clear hlj hla hc hcl
            cases hcc : c.2 with
            | true =>
              rw [hcc] at d3 Hst
              obtain rfl : r = 8 := (unhide Hr).symm.trans (refE_l hd (lnsE_8 (unhide Hlen) (unhide Ham) (unhide Hall) (by rw [← unhide Hc, unhide Hst]; simp)) (by simp))
              go_upto_region 20 with fail
              go_quiet (fail)
              go_wp2_with fail
              go_ret
              exact ⟨rfl, _, by first | rfl | exact (World.drewN_drewN _ _ _)⟩
            | false =>
              rw [hcc] at d3 Hst
              go_upto_region 20 with fail
              go_quiet (fail)
              go_wp2_with fail
              go_roundg (ls.length - (j + 1))
              case measure => omega
              case rel => exact ⟨j + 1, _, by omega, rfl, by go_num, by show _ = _; rw [← unhide Hc, unhide Hst]; simp, by first | rfl | exact (World.drewN_drewN _ _ _)⟩
          · obtain rfl : j = ls.length := by omega
            have Hncl : Hid ((ls.any fun l => clsd s l.1) = false) := by show _ = _; rw [← unhide Hc, List.drop_length]; rfl
            have hjl : tv.length = s.txs.length := by rw [← (unhide H).jr, List.length_map]
            have hgp := (unhide H).good.posts
            by_cases hx : x = 0
            · subst hx
              have hle := lnsE_0 (unhide Hlen) (unhide Ham) (unhide Hall) (unhide Hncl) (unhide Hxs).symm
              by_cases h64 : 64 ≤ s.txs.length
              · obtain rfl : r = 11 := (unhide Hr).symm.trans (refE_11 hd hle h64)
                have he : ((tv.length : Int) == 64) = true := by simp; omega
                clear hle hjl hgp h64
                go_wp2_with fail
                go_ret
                exact ⟨rfl, n, rfl⟩
              · obtain rfl : r = 0 := (unhide Hr).symm.trans (refE_0 hd hle h64)
                have he : ((tv.length : Int) == 64) = false := by simp; omega
                clear hle hjl hgp h64
                go_wp2_with fail
                go_ret
                exact ⟨rfl, n, rfl⟩
            · obtain rfl : r = 17 := (unhide Hr).symm.trans (refE_l hd (lnsE_17 (unhide Hlen) (unhide Ham) (unhide Hall) (unhide Hncl) (by rw [← unhide Hxs]; exact hx)) (by simp))
              have hxe : (x == 0) = false := by simpa using hx
              clear hjl hgp
              go_wp2_with fail
              go_ret
              exact ⟨rfl, n, rfl⟩

end Go.Proofs.YtdchbenfccofpaaGreatDoor
namespace Go.Proofs.YtdchbenfccofpaaGreatDoor
open Go.RowKit Db

theorem map_shut {l : List Ac} {k : Nat} {c : Ac} (h : l[k]? = some c) : ((l.set k (c.1, true)).map fun a => Value.int .i64 a.1) = l.map fun a => Value.int .i64 a.1 := by
  rw [List.map_set]
  apply List.ext_getElem?
  intro i
  rw [List.getElem?_set]
  by_cases hi : k = i
  · subst hi
    rw [if_pos rfl]
    have hl := (List.getElem?_eq_some_iff.1 h).1
    rw [if_pos (by simpa using hl), List.getElem?_map, h]; rfl
  · rw [if_neg hi]

theorem RefAt.shut {w : World} {B p g cap k : Nat} {vp vt : Value} {tv : List (Tn × Value)} {s : Bk} {c : Ac} (h : RefAt w B p vp (.slice (some ⟨g, 0, none⟩) s.acs.length cap) vt tv s) (hc : s.acs[k]? = some c) (hg : BkGood { s with acs := s.acs.set k (c.1, true) }) :
    RefAt (w.setCell ⟨g, k, none⟩ (.bool true)) B p vp (.slice (some ⟨g, 0, none⟩) s.acs.length cap) vt tv { s with acs := s.acs.set k (c.1, true) } ∧ FrT B tR w (w.setCell ⟨g, k, none⟩ (.bool true)) := by
  have ht := ownsRow_tg h.clo g rfl
  have f1 : FrT B [4] w (w.setCell ⟨g, k, none⟩ (.bool true)) := (FrT.refl _ _ w).setCell (T := 4) (by simp) ht.2 ht.1 _
  refine ⟨⟨h.blk.frT f1 (by decide), h.lo, ?_, ?_, h.txs.frT f1 (by decide) (by decide), h.jr, hg⟩, f1.mono (by simp [tR])⟩
  · simp only [List.length_set]
    rw [map_shut hc]
    exact ownsRow_frT h.par f1 (by decide)
  · simp only [List.length_set, List.map_set]
    exact own_set h.clo _

set_option maxRecDepth 100000 in
set_option maxHeartbeats 8000000 in
theorem refClose_any (B p : Nat) (s : Bk) (a : Int) (w : World) (h : Rfd w B p s) :
    Calls Tryz.prog 14 #[.pointer (some ⟨p, 0, none⟩), .int .i64 a] w fun e w' => e = .returned (.int .i64 (cls s a).1) ∧ Rfd w' B p (cls s a).2 ∧ FrT B tR w w' := by
  have Ht := hide (there_any B p s a w h)
  obtain ⟨vp, vc, vt, tv, h⟩ := h
  obtain ⟨g, cap, rfl, hg, hg'⟩ := ownsRow_some h.par h.good.one
  obtain ⟨g2, cap2, rfl, hg2, hg2'⟩ := ownsRow_some h.clo h.good.one
  obtain ⟨ao, cap3, rfl⟩ := ownsRow_form h.txs.own
  have c0 := h.blk.cell 0
  have c1 := h.blk.cell 1
  have c2 := h.blk.cell 2
  have hlp := h.blk.lt
  simp only [List.getElem?_toArray, List.getElem?_cons_zero, List.getElem?_cons_succ] at c0 c1 c2
  have hfew := h.good.few
  have H := hide h
  by_cases hin : a < 0 ∨ (s.acs.length : Int) ≤ a
  · have ht := ther_no hin
    rw [cls_none (.inl ht)]
    rw [ht] at Ht
    clear h ht
    go_enter Tryz.func14, Tryz.ntmps14
    go_wp2_with fail
    refine (unhide Ht).mono ?_
    rintro e w1 ⟨rfl, rfl⟩
    go_wp2_with fail
    go_ret
    exact ⟨rfl, ⟨_, _, _, _, unhide H⟩, FrT.refl _ _ _⟩
  by_cases ha0 : a = 0
  · subst ha0
    have ht : ther s 0 = true := ther_nat (k := 0) (by have := h.good.one; omega)
    rw [cls_none (.inr rfl)]
    rw [ht] at Ht
    clear h ht
    go_enter Tryz.func14, Tryz.ntmps14
    go_wp2_with fail
    refine (unhide Ht).mono ?_
    rintro e w1 ⟨rfl, rfl⟩
    go_wp2_with fail
    go_ret
    exact ⟨rfl, ⟨_, _, _, _, unhide H⟩, FrT.refl _ _ _⟩
  obtain ⟨k, rfl⟩ : ∃ k : Nat, a = k := ⟨a.toNat, by omega⟩
  have hk : k < s.acs.length := by omega
  obtain ⟨c, hc⟩ := acs_get hk
  have d := ownsRow_cell h.clo (j := k) (u := .bool c.2) (by rw [List.getElem?_map, hc]; rfl)
  have ht := ther_nat hk
  rw [ht] at Ht
  have hcl := clsd_at hc
  have hk0 : ((k : Int) == 0) = false := by simpa using ha0
  clear h hin
  cases hcc : c.2 with
  | true =>
    rw [hcc] at d hcl
    rw [cls_shut ht ha0 hcl]
    clear ht hcl hc
    go_enter Tryz.func14, Tryz.ntmps14
    go_wp2_with fail
    refine (unhide Ht).mono ?_
    rintro e w1 ⟨rfl, rfl⟩
    go_wp2_with fail
    go_ret
    exact ⟨rfl, ⟨_, _, _, _, unhide H⟩, FrT.refl _ _ _⟩
  | false =>
    rw [hcc] at d hcl
    have hlen : tv.length ≤ 64 := by have := (unhide H).good.posts; rw [← (unhide H).jr, List.length_map] at this; exact this
    have HTr := hide ht
    have Hcl := hide hcl
    have Hc := hide hc
    obtain ⟨r, hr⟩ : ∃ r, cls s (k : Int) = r := ⟨_, rfl⟩
    have Hr := hide hr
    rw [hr]
    clear ht hcl hc hr
    go_enter Tryz.func14, Tryz.ntmps14
    go_wp2_with fail
    refine (unhide Ht).mono ?_
    rintro e w1 ⟨rfl, rfl⟩
    go_wp2_with fail
    go_loopg [6] s.acs.length (fun m i wr => ∃ j : Nat, j ≤ s.acs.length ∧ m = s.acs.length - j ∧ i = .int .i64 j ∧ Hid (opb k (s.acs.drop j) = opb k s.acs) ∧ wr = w1)
    case atStart => exact ⟨0, by omega, rfl, rfl, rfl, rfl⟩
    case round =>
      obtain ⟨j, hj, rfl, rfl, Ho, rfl⟩ := hrel
      by_cases hlt : j < s.acs.length
      · obtain ⟨⟨cp, cc⟩, hcj⟩ := acs_get hlt
        have d1 := ownsRow_cell (unhide H).par (j := j) (u := .int .i64 cp) (by rw [List.getElem?_map, hcj]; rfl)
        have d2 := ownsRow_cell (unhide H).clo (j := j) (u := .bool cc) (by rw [List.getElem?_map, hcj]; rfl)
        have Hst := hide (opb_step (a := (k : Int)) hcj)
        simp only at Hst
        clear hcj
        by_cases hcp : cp = k
        · subst hcp
          cases cc with
          | true =>
            go_wp2_with fail
            go_roundg (s.acs.length - (j + 1))
            case measure => omega
            case rel => exact ⟨j + 1, by omega, rfl, by go_num, by show _ = _; rw [← unhide Ho, unhide Hst]; simp, rfl⟩
          | false =>
            have hrr : r = (9, s) := by rw [← unhide Hr]; exact cls_open (unhide HTr) ha0 (unhide Hcl) (by rw [← unhide Ho, unhide Hst]; simp)
            subst hrr
            go_wp2_with fail
            go_ret
            exact ⟨rfl, ⟨_, _, _, _, unhide H⟩, FrT.refl _ _ _⟩
        · have hne : (cp == (k : Int)) = false := by simpa using hcp
          go_wp2_with fail
          go_roundg (s.acs.length - (j + 1))
          case measure => omega
          case rel => exact ⟨j + 1, by omega, rfl, by go_num, by show _ = _; rw [← unhide Ho, unhide Hst, hne]; simp, rfl⟩
      · obtain rfl : j = s.acs.length := by omega
        have Hop : Hid (opb k s.acs = false) := by show _ = _; rw [← unhide Ho, List.drop_length]; rfl
        clear Ho hlt hj
        obtain ⟨W0, hW0⟩ : ∃ W0, W0 = wr := ⟨_, rfl⟩
        subst hW0
        go_wp2_with fail
        go_loopg [7, 8] tv.length (fun m v i wx => ∃ j : Nat, ∃ x : Int, j ≤ tv.length ∧ m = tv.length - j ∧ i = .int .i64 j ∧ v = .int .i64 x ∧ -(4000000000000 * (j : Int)) ≤ x ∧ x ≤ 4000000000000 * (j : Int) ∧ Hid (x + balT k (s.txs.drop j) = balT k s.txs) ∧ wx = W0)
        case atStart => exact ⟨0, 0, by omega, rfl, rfl, rfl, by omega, by omega, by show _ = _; simp, rfl⟩
        case round =>
          obtain ⟨j, x, hj, rfl, rfl, rfl, hx0, hx1, Ho, hW⟩ := hrel
          subst hW
          by_cases hlt : j < tv.length
          · obtain ⟨⟨t, v⟩, htj⟩ : ∃ t, tv[j]? = some t := ⟨tv[j], List.getElem?_eq_getElem hlt⟩
            obtain ⟨g3, _, e1, hg3, hg3'⟩ := ownsRow_some (unhide H).txs.own (by omega)
            simp only [Value.slice.injEq, true_and] at e1
            obtain ⟨rfl, rfl⟩ := e1
            have h3 := three_get (fun x : Tn × Value => Value.int .i64 x.1.1) (fun x => .int .i64 x.1.2.1) (fun x => x.2) tv j (t, v) htj
            have f2 := ownsRow_cell (unhide H).txs.own (j := j * 3 + 2) h3.2.2
            have hl := (unhide H).txs.lns _ (List.mem_of_getElem? htj)
            have hst : s.txs[j]? = some t := by rw [← (unhide H).jr, List.getElem?_map, htj]; rfl
            have hgt := (unhide H).good.tx t (List.mem_of_getElem? hst)
            have Hst := hide (balT_step (a := (k : Int)) hst)
            obtain ⟨ti, td, ls⟩ := t
            simp only at f2 hl hgt Hst
            obtain ⟨aol, capl, rfl⟩ := ownsRow_form hl
            have hl4 := hgt.2.2.2.2.1
            have Hlb := hide hgt.2.2.2.2.2
            have Hl := hide hl
            clear h3 hl hst hgt htj
            obtain ⟨W1, hW1⟩ : ∃ W1, W1 = wr := ⟨_, rfl⟩
            subst hW1
            go_wp2_with fail
            go_loopg [7, 9] ls.length (fun m v i wx => ∃ q : Nat, ∃ y : Int, q ≤ ls.length ∧ m = ls.length - q ∧ i = .int .i64 q ∧ v = .int .i64 y ∧ -(4000000000000 * (j : Int)) - 1000000000000 * (q : Int) ≤ y ∧ y ≤ 4000000000000 * (j : Int) + 1000000000000 * (q : Int) ∧ Hid (y + balL k (ls.drop q) = x + balL k ls) ∧ wx = W1)
            case atStart => exact ⟨0, x, by omega, rfl, rfl, rfl, by omega, by omega, by show _ = _; simp, rfl⟩
            case round =>
              obtain ⟨q, y, hq, rfl, rfl, rfl, hy0, hy1, Hy, hW⟩ := hrel
              subst hW
              by_cases hlt2 : q < ls.length
              · obtain ⟨⟨la, lm⟩, hlk⟩ : ∃ l, ls[q]? = some l := ⟨ls[q], List.getElem?_eq_getElem hlt2⟩
                obtain ⟨g4, _, e1, hg4, hg4'⟩ := ownsRow_some (unhide Hl) (by omega)
                simp only [Value.slice.injEq, true_and] at e1
                obtain ⟨rfl, rfl⟩ := e1
                have h2 := two_get (fun x : Ln => Value.int .i64 x.1) (fun x => .int .i64 x.2) ls q (la, lm) hlk
                have n0 := ownsRow_cell (unhide Hl) (j := q * 2) h2.1
                have n1 := ownsRow_cell (unhide Hl) (j := q * 2 + 1) h2.2
                have hb := unhide Hlb (la, lm) (List.mem_of_getElem? hlk)
                have Hs2 := hide (balL_step (a := (k : Int)) hlk)
                simp only at n0 n1 hb Hs2
                clear h2 hlk
                by_cases hla : la = k
                · subst hla
                  have hwr : IntKind.i64.wrap (y + lm) = y + lm := by rw [IntKind.wrap_i64]; omega
                  go_wp2_with fail
                  go_roundg (ls.length - (q + 1))
                  case measure => omega
                  case rel => exact ⟨q + 1, y + lm, by omega, rfl, by go_num, rfl, by omega, by omega, by show _ = _; have := unhide Hy; rw [unhide Hs2] at this; simp only [beq_self_eq_true, if_true] at this; omega, rfl⟩
                · have hne : (la == (k : Int)) = false := by simpa using hla
                  go_wp2_with fail
                  go_roundg (ls.length - (q + 1))
                  case measure => omega
                  case rel => exact ⟨q + 1, y, by omega, rfl, by go_num, rfl, by omega, by omega, by show _ = _; have := unhide Hy; rw [unhide Hs2, hne] at this; simpa using this, rfl⟩
              · obtain rfl : q = ls.length := by omega
                have hyy : y = x + balL k ls := by have := unhide Hy; rw [List.drop_length] at this; simpa [balL] using this
                have Ho2 : Hid (y + balT k (s.txs.drop (j + 1)) = balT k s.txs) := by
                  show _ = _
                  have := unhide Ho
                  rw [unhide Hst] at this
                  omega
                clear hyy
                go_wp2_with fail
                go_roundg (tv.length - (j + 1))
                case measure => omega
                case rel => exact ⟨j + 1, y, by omega, rfl, by go_num, rfl, by omega, by omega, unhide Ho2, rfl⟩
          · obtain rfl : j = tv.length := by omega
            have hxx : x = balT k s.txs := by
              have := unhide Ho
              rw [List.drop_of_length_le (by rw [← (unhide H).jr, List.length_map]; exact Nat.le_refl _)] at this
              simpa [balT] using this
            by_cases hx : x = 0
            · subst hx
              have hrr := (unhide Hr).symm.trans (cls_ok (unhide HTr) ha0 (unhide Hcl) (unhide Hop) hxx.symm (unhide Hc))
              have Hgood : Hid (BkGood { s with acs := s.acs.set k (c.1, true) }) := by
                have := BkGood.cls (unhide H).good (k : Int)
                rw [unhide Hr, hrr] at this
                exact this
              subst hrr
              have z2 := ownsRow_frozen (unhide H).clo k
              clear hxx
              go_wp2_with fail
              go_ret
              have hfin := (unhide H).shut (unhide Hc) (unhide Hgood)
              exact ⟨rfl, ⟨_, _, _, _, hfin.1⟩, hfin.2⟩
            · have hrr := (unhide Hr).symm.trans (cls_bal (unhide HTr) ha0 (unhide Hcl) (unhide Hop) (by rw [← hxx]; exact hx))
              subst hrr
              have hbe : (x == 0) = false := by simpa using hx
              clear hxx
              go_wp2_with fail
              go_ret
              exact ⟨rfl, ⟨_, _, _, _, unhide H⟩, FrT.refl _ _ _⟩

end Go.Proofs.YtdchbenfccofpaaGreatDoor
namespace Go.Proofs.YtdchbenfccofpaaGreatDoor
open Go.RowKit Db

theorem info_rtx : (Tryz.prog.info? 87).map (fun i => (i.zero, i.size, i.bytes)) = some (some (.agg #[.int .i64 0, .int .i64 0, .slice none 0 0]), 3, 40) := by kernel_rfl
theorem size_line : (Tryz.prog.info? 89).map (·.size) = some 2 := by kernel_rfl
theorem pst_ref {s : Bk} {id day : Int} {ls : List Ln} (h : ¬ (id < 0 ∨ 9999 < id)) (hf : findT id s.txs = none) (hr : ¬ refE s day ls = 0) : pst s id day ls = (refE s day ls, s) := by
  by_cases hd : day < 0 ∨ 999 < day
  · rw [pst_day h hf hd, refE_14 hd]
  · by_cases hl : lnsE s ls = 0
    · by_cases h64 : 64 ≤ s.txs.length
      · rw [pst_full h hf hd hl h64, refE_11 hd hl h64]
      · exact absurd (refE_0 hd hl h64) hr
    · rw [pst_bad h hf hd hl, refE_l hd rfl hl]
theorem refE_zero {s : Bk} {day : Int} {ls : List Ln} (h : refE s day ls = 0) : ¬ (day < 0 ∨ 999 < day) ∧ lnsE s ls = 0 ∧ ¬ 64 ≤ s.txs.length := by
  unfold refE at h
  split at h
  · simp at h
  · rename_i h1
    split at h
    · rename_i h2; exact absurd h h2
    · rename_i h2
      split at h
      · simp at h
      · rename_i h3; exact ⟨h1, Decidable.not_not.1 h2, h3⟩

theorem RefAt.post {w w5 : World} {B p : Nat} {vp vc vt vt' v2 : Value} {tv : List (Tn × Value)} {s s' : Bk} {t : Tn} (h : RefAt w B p vp vc vt tv s) (o : Obj) (hv : w.ownsRow B 89 2 v2 t.2.2.length (cellsL t.2.2)) (hgr : (w.alloc o).grownBy w5 vt.ownBlock) (hblk : Blk w5 p #[vp, vc, vt] 84)
    (hown : w5.ownsRow B 87 3 vt' (tv.length + 1) (cellsT (tv ++ [(t, v2)]))) (hs : s'.txs = s.txs ++ [t]) (ha : s'.acs = s.acs) (hg : BkGood s') :
    RefAt (w5.setCell ⟨p, 2, none⟩ vt') B p vp vc vt' (tv ++ [(t, v2)]) s' ∧ FrT B tR w (w5.setCell ⟨p, 2, none⟩ vt') := by
  have f1 : FrT B [87] w w5 := ((FrT.refl _ _ w).alloc o).grown hgr (T := 87) (by simp) (fun k hk => ⟨(ownsRow_tg h.txs.own k hk).1, tg_alloc (ownsRow_tg h.txs.own k hk).2 o⟩)
  have f2 : FrT B [84] w5 (w5.setCell ⟨p, 2, none⟩ vt') := (FrT.refl _ _ w5).setCell (T := 84) (by simp) hblk.tg h.lo _
  refine ⟨⟨?_, h.lo, ?_, ?_, ⟨?_, ?_⟩, ?_, hg⟩, (f1.mono (by simp [tR])).trans (f2.mono (by simp [tR]))⟩
  · have := hblk.set 2 vt'
    simpa using this
  · rw [ha]; exact ownsRow_frT (ownsRow_frT h.par f1 (by decide)) f2 (by decide)
  · rw [ha]; exact ownsRow_frT (ownsRow_frT h.clo f1 (by decide)) f2 (by decide)
  · have := ownsRow_frT hown f2 (by decide)
    simpa using this
  · intro x hx
    rcases List.mem_append.1 hx with hx | hx
    · exact ownsRow_frT (ownsRow_frT (h.txs.lns x hx) f1 (by decide)) f2 (by decide)
    · simp only [List.mem_singleton] at hx
      subst hx
      exact ownsRow_frT (ownsRow_frT hv f1 (by decide)) f2 (by decide)
  · rw [hs, ← h.jr]; simp

/-- The list that was made and copied. -/
theorem own_copied {w w' : World} {B : Nat} {ls : List Ln} (hB : B ≤ w.heap.size) (hn : ls.length ≤ 4) (hg : w'.heap[w.heap.size]? = some (.cells (cellsL ls ++ (madeCells #[.int .i64 0, .int .i64 0] (ls.length * 2)).toList.drop (cellsL ls).length).toArray 89 (0, 0))) :
    w'.ownsRow B 89 2 (.slice (some ⟨w.heap.size, 0, none⟩) ls.length ls.length) ls.length (cellsL ls) := by
  have hd : (madeCells #[.int .i64 0, .int .i64 0] (ls.length * 2)).toList.drop (cellsL ls).length = [] := by
    apply List.drop_of_length_le
    rw [Array.length_toList, size_madeCells, cellsL_length]
    exact Nat.le_refl _
  rw [hd, List.append_nil] at hg
  have := owns_new (B := B) (size := 2) (n := ls.length) hg hB (by unfold maxLen; omega) (by simpa using cellsL_length ls)
  simpa using this

set_option maxRecDepth 100000 in
set_option maxHeartbeats 4000000 in
theorem refPost_any (B p : Nat) (s : Bk) (id day : Int) (v : Value) (ls : List Ln) (w : World) (h : Rfd w B p s) (hl : LinesAt w v ls) :
    Calls Tryz.prog 15 #[.pointer (some ⟨p, 0, none⟩), .int .i64 id, .int .i64 day, v] w fun e w' => e = .returned (.int .i64 (pst s id day ls).1) ∧ Rfd w' B p (pst s id day ls).2 ∧ FrT B tR w w' := by
  have Hold := hide (old_any B p s id day v ls w h hl)
  have Href := hide (fun (wx : World) (hb : Below w.heap.size w wx) (h : Rfd wx B p s) => refused_any B p s day v ls wx h (hl.kept hb))
  obtain ⟨vp, vc, vt, tv, h⟩ := h
  obtain ⟨ao, cap, rfl⟩ := hl.form
  obtain ⟨jj, hj, hy0, hy1, hy2⟩ := info_parts info_rtx
  have H := hide h
  have Hl := hide hl
  by_cases hid : id < 0 ∨ 9999 < id
  · rw [pst_id hid]
    clear h hl
    by_cases hneg : id < 0
    · go_enter Tryz.func15, Tryz.ntmps15
      go_wp2_with fail
      go_ret
      exact ⟨rfl, ⟨_, _, _, _, unhide H⟩, FrT.refl _ _ _⟩
    · have hgt : 9999 < id := by omega
      go_enter Tryz.func15, Tryz.ntmps15
      go_wp2_with fail
      go_ret
      exact ⟨rfl, ⟨_, _, _, _, unhide H⟩, FrT.refl _ _ _⟩
  have h0 : ¬ id < 0 := by omega
  have h9 : ¬ 9999 < id := by omega
  clear h hl
  cases hfd : findT id s.txs with
  | some t =>
    rw [pst_old hid hfd]
    rw [oldE_some hfd] at Hold
    obtain ⟨x, hx⟩ : ∃ x, repE t.2.1 day t.2.2 ls = x := ⟨_, rfl⟩
    rw [hx] at Hold ⊢
    clear hx hfd
    simp only at Hold ⊢
    go_enter Tryz.func15, Tryz.ntmps15
    go_wp2_with fail
    refine (unhide Hold).mono ?_
    rintro e w1 ⟨rfl, hb1⟩
    have Hb1 := hide hb1
    clear hb1
    go_wp2_with fail
    go_ret
    exact ⟨rfl, ⟨_, _, _, _, (unhide H).kept (unhide Hb1)⟩, FrT.of_below (unhide Hb1)⟩
  | none =>
    rw [oldE_none hfd] at Hold
    simp only at Hold
    by_cases hr : refE s day ls = 0
    · obtain ⟨hd, hlz, h64⟩ := refE_zero hr
      have hok := pst_ok hid hfd hd hlz h64
      have Hgood : Hid (BkGood { s with txs := s.txs ++ [(id, day, ls)] }) := by
        have := BkGood.pst (unhide H).good id day ls
        rw [hok] at this
        exact this
      rw [hok]
      rw [hr] at Href
      have hjl : tv.length = s.txs.length := by rw [← (unhide H).jr, List.length_map]
      have h64' : tv.length < 64 := by omega
      have hl4 : ls.length ≤ 4 := (lnsE_ok (unhide H).good hlz).1
      have hl2 : 2 ≤ ls.length := by
        by_cases hx : ls.length < 2
        · rw [lnsE_15 (.inl hx)] at hlz; simp at hlz
        · omega
      obtain ⟨aot, capt, rfl⟩ := ownsRow_form (unhide H).txs.own
      obtain ⟨ao1, cap1, e1, hrr⟩ := unhide Hl
      simp only [Value.slice.injEq, true_and] at e1
      obtain ⟨rfl, rfl⟩ := e1
      obtain ⟨b, off, rfl, hbl, hcs⟩ : ∃ b off, ao = some ⟨b, off, none⟩ ∧ b < w.heap.size ∧ ∀ (i : Nat) (l : Ln), ls[i]? = some l → w.cell? ⟨b, off + i * 2, none⟩ = some (.int .i64 l.1) ∧ w.cell? ⟨b, off + i * 2 + 1, none⟩ = some (.int .i64 l.2) := by
        rcases hrr with rfl | hr
        · simp at hl2
        · exact hr
      have Hcs := hide (lines_cells hcs)
      have hBp := (unhide H).lo
      have hpl := (unhide H).blk.lt
      have hmk := run_make2 ls.length (by omega)
      clear hfd hlz hjl h64 hok hrr hcs hr hd
      go_enter Tryz.func15, Tryz.ntmps15
      go_wp2_with fail
      refine (unhide Hold).mono ?_
      rintro e w1 ⟨rfl, hb1⟩
      have Hb1 := hide hb1
      clear hb1
      go_wp2_with fail
      refine (unhide Href _ (unhide Hb1) ⟨_, _, _, _, (unhide H).kept (unhide Hb1)⟩).mono ?_
      rintro e w2 ⟨rfl, n, hw2⟩
      have Hb2 : Hid (Below w.heap.size w w2) := by rw [hw2]; exact (unhide Hb1).drewN n
      clear hw2
      have H2 := hide ((unhide H).kept (unhide Hb2))
      have hsz2 := (unhide Hb2).size
      have Hcs2 : Hid (∀ j u, (cellsL ls)[j]? = some u → (w2.alloc (.cells (madeCells #[.int .i64 0, .int .i64 0] (ls.length * 2)) 89)).cell? ((⟨b, off, none⟩ : Addr).add j) = some u) := by
        intro j u hju
        rw [← unhide Hcs j u hju, Addr.add_lit]
        exact ((unhide Hb2).alloc hsz2 _).cell (p := ⟨b, off + j, none⟩) hbl
      go_wp2_with (first
        | (refine wpList_copy2 rfl (.tmp 38) (.tmp 39) 31 31 rfl 89 Tryz.underlying31 size_line w2.heap.size ls.length ls.length (some ⟨b, off, none⟩) ls.length cap rfl rfl (madeCells #[.int .i64 0, .int .i64 0] (ls.length * 2)) 89 (heap_alloc_new _ _) (cellsL ls) (cellsL_length ls) (Nat.le_refl _) (.inr ⟨_, rfl, unhide Hcs2⟩) (by rw [size_madeCells, cellsL_length]; exact Nat.le_refl _) (cellsL_one ls) ?_; intro w3 hg3 ho3 hs3 os3 tp3 ou3; have hown3 := own_copied (B := B) (w := w2) (by omega) hl4 hg3; have hb3 : Below w2.heap.size w2 w3 := ⟨os3, tp3, ou3, (by rw [hs3]; simp), (fun k hk => by rw [ho3 k (by omega)]; exact Below.heap_alloc _ _ _ hk)⟩; have H3 := hide ((unhide H2).kept hb3); have c3 := (unhide H3).blk.cell 2; have z3 := (unhide H3).blk.frozen 2; have l3 := (unhide H3).blk.lt; simp only [List.getElem?_toArray, List.getElem?_cons_zero, List.getElem?_cons_succ] at c3; have Hown3 := hide hown3; have Hb3 := hide ((unhide Hb2).then hb3); have hsz3 := hb3.size; clear hown3 hb3 hg3 ho3 hs3 os3 tp3 ou3)
        | (at_builtin; refine wpList_append_own _ rfl (.tmp 45) (.tmp 50) 82 rfl B 87 jj (.agg #[.int .i64 0, .int .i64 0, .slice none 0 0]) 3 40 Tryz.underlying82 hj hy0 hy1 hy2 rfl (by decide) (.slice aot tv.length capt) tv.length _ rfl ((unhide H3).txs.own.alloc _) ⟨w3.heap.size, 0, none⟩ 1 1 [.int .i64 id, .int .i64 day, .slice (some ⟨w2.heap.size, 0, none⟩) ls.length ls.length] rfl rfl (new3 _ _ (by simp) _ _ _ _) (fun x hx => by simp at hx; rcases hx with rfl | rfl | rfl <;> rfl) (by unfold maxLen; omega) (by omega) (by simp; omega) ?_; intro vq' w5 hown5 hgr5 _; obtain ⟨gf, cf, rfl, hgf, hgf'⟩ := ownsRow_some hown5 (Nat.succ_pos _); have hblk5 := ((unhide H3).blk.alloc _).grown hgr5 (blk_own_ne (unhide H3).blk (unhide H3).txs.own (by decide)); have c5 := hblk5.cell 2; have z5 := hblk5.frozen 2; have l5 := hblk5.lt; simp only [List.getElem?_toArray, List.getElem?_cons_zero, List.getElem?_cons_succ] at c5; have Hblk5 := hide hblk5; have Hown5 := hide hown5; have Hgr5 := hide hgr5; clear hblk5 hown5 hgr5))
      go_ret
      have hfin := (unhide H3).post _ (t := (id, day, ls)) (unhide Hown3) (unhide Hgr5) (unhide Hblk5) (s' := { s with txs := s.txs ++ [(id, day, ls)] }) (by rw [cellsT_snoc]; exact unhide Hown5) rfl rfl (unhide Hgood)
      exact ⟨rfl, ⟨_, _, _, _, hfin.1⟩, (FrT.of_below (unhide Hb3)).trans hfin.2⟩
    · rw [pst_ref hid hfd hr]
      obtain ⟨x, hx⟩ : ∃ x, refE s day ls = x := ⟨_, rfl⟩
      rw [hx] at Href hr ⊢
      have hxe : (x == 0) = false := by simpa using hr
      clear hx hfd
      simp only
      go_enter Tryz.func15, Tryz.ntmps15
      go_wp2_with fail
      refine (unhide Hold).mono ?_
      rintro e w1 ⟨rfl, hb1⟩
      have Hb1 := hide hb1
      clear hb1
      go_wp2_with fail
      refine (unhide Href _ (unhide Hb1) ⟨_, _, _, _, (unhide H).kept (unhide Hb1)⟩).mono ?_
      rintro e w2 ⟨rfl, n, hw2⟩
      have Hb2 : Hid (Below w.heap.size w w2) := by rw [hw2]; exact (unhide Hb1).drewN n
      clear hw2
      go_wp2_with fail
      go_ret
      exact ⟨rfl, ⟨_, _, _, _, (unhide H).kept (unhide Hb2)⟩, FrT.of_below (unhide Hb2)⟩

end Go.Proofs.YtdchbenfccofpaaGreatDoor
namespace Db

def jn (sep : UInt8) : List (List UInt8) → List UInt8
  | [] => []
  | x :: r => x ++ r.flatMap (fun y => sep :: y)
theorem jn_one {sep : UInt8} {l : List (List UInt8)} {x : List UInt8} (h : l[0]? = some x) : jn sep (l.take 1) = x := by
  cases l with
  | nil => simp at h
  | cons y r => simp at h; subst h; simp [jn]
theorem jn_more {sep : UInt8} {l : List (List UInt8)} {i : Nat} {x : List UInt8} (hi : 0 < i) (h : l[i]? = some x) : jn sep (l.take (i + 1)) = jn sep (l.take i) ++ sep :: x := by
  cases l with
  | nil => simp at h
  | cons y r =>
    obtain ⟨k, rfl⟩ : ∃ k, i = k + 1 := ⟨i - 1, by omega⟩
    simp only [List.getElem?_cons_succ] at h
    simp only [List.take_succ_cons, jn]
    rw [List.take_add_one, h]
    simp
end Db
namespace Go.Proofs.YtdchbenfccofpaaGreatDoor
open Go.RowKit Db

def acT (c : Ac) : List UInt8 := Lib.itoa c.1 ++ (if c.2 then [120] else [])
def accL (s : Bk) : List (List UInt8) := (s.acs.drop 1).map acT
def accT (s : Bk) : List UInt8 := jn 44 (accL s)
theorem accL_get {s : Bk} {j : Nat} {c : Ac} (h : s.acs[j + 1]? = some c) : (accL s)[j]? = some (acT c) := by
  unfold accL; rw [List.getElem?_map, List.getElem?_drop, Nat.add_comm 1 j, h]; rfl
theorem accL_all {s : Bk} {u : List UInt8} (h : u = jn 44 ((accL s).take (s.acs.length - 1))) : u = accT s := by
  rw [h, List.take_of_length_le (by unfold accL; simp)]; rfl
theorem acT_size {c : Ac} (h : -1 ≤ c.1 ∧ c.1 ≤ 16) {u : ByteArray} (hu : L u = Lib.itoa c.1) : u.size ≤ 21 := itoa_size (by omega) (by omega) hu

/-- One account more. -/
theorem acc_step {s : Bk} {j : Nat} {c : Ac} (h : s.acs[j + 1]? = some c) {u t : List UInt8} (hu : u = jn 44 ((accL s).take j)) (ht : t = Lib.itoa c.1) :
    (j = 0 → u ++ t ++ (if c.2 then [120] else []) = jn 44 ((accL s).take (j + 1))) ∧ (0 < j → u ++ [44] ++ t ++ (if c.2 then [120] else []) = jn 44 ((accL s).take (j + 1))) := by
  have hm := accL_get h
  constructor
  · rintro rfl
    rw [jn_one hm, hu, ht]; simp [jn, acT]
  · intro hj
    rw [jn_more hj hm, hu, ht]; simp [acT]

set_option maxRecDepth 100000 in
set_option maxHeartbeats 4000000 in
theorem ledAccounts_any (B p : Nat) (s : Bk) (w : World) (h : Led w B p s) (ht : Tab w) :
    Calls Tryz.prog 48 #[.pointer (some ⟨p, 0, none⟩)] w fun e w' => ∃ u : ByteArray, e = .returned (.string u) ∧ L u = accT s ∧ Below w.heap.size w w' := by
  obtain ⟨va, vt, tv, dk, h⟩ := h
  obtain ⟨g, cap, rfl, hg, hg'⟩ := ownsRow_some h.acs h.good.one
  have c0 := h.blk.cell 0
  simp only [List.getElem?_toArray, List.getElem?_cons_zero] at c0
  have hfew := h.good.few
  have hone := h.good.one
  have H := hide h
  have Ht := hide ht
  clear h ht
  go_enter Tryz.func48, Tryz.ntmps48
  go_wp2_with fail
  go_loopg [3, 11] s.acs.length (fun m vu i wr => ∃ j : Nat, ∃ u : ByteArray, j ≤ s.acs.length ∧ m = s.acs.length - j ∧ i = .int .i64 j ∧ vu = .string u ∧ u.size ≤ 24 * j ∧ Hid (L u = jn 44 ((accL s).take (j - 1))) ∧ Hid (Below w.heap.size w wr))
  case atStart => exact ⟨0, ⟨#[]⟩, by omega, rfl, rfl, rfl, Nat.le_refl 0, rfl, Below.refl _ _⟩
  case round =>
    obtain ⟨j, u, hj, rfl, rfl, rfl, hus, Hu, Hb⟩ := hrel
    have hsz := (unhide Hb).size
    by_cases hlt : j < s.acs.length
    · obtain ⟨c, hc⟩ := acs_get hlt
      have hro := ownsRow_below (unhide H).acs (unhide Hb)
      have d1 := ownsRow_cell hro (j := j * 2) (two_get (fun a : Ac => Value.int .i64 a.1) (fun a => .bool a.2) s.acs j c hc).1
      have d2 := ownsRow_cell hro (j := j * 2 + 1) (two_get (fun a : Ac => Value.int .i64 a.1) (fun a => .bool a.2) s.acs j c hc).2
      have hpar := (unhide H).good.par c (List.mem_of_getElem? hc)
      cases j with
      | zero =>
        obtain ⟨cp, cc⟩ := c
        simp only at d1 d2
        clear hro hc hpar
        go_wp2_with fail
        go_roundg (s.acs.length - (0 + 1))
        case measure => omega
        case rel => exact ⟨0 + 1, u, by omega, rfl, by go_num, rfl, by omega, unhide Hu, (unhide Hb).alloc hsz _⟩
      | succ j =>
        have Hst := hide (fun t => acc_step (t := t) hc (by exact unhide Hu))
        obtain ⟨cp, cc⟩ := c
        simp only at d1 d2 hpar Hst
        have hne : (((j + 1 : Nat) : Int) == 0) = false := by simp; omega
        clear hro hc
        by_cases hj0 : j = 0
        · subst hj0
          go_wp2_with fail
          refine (itoa_any cp _ (by omega) (by omega) ((unhide Ht).below (by exact (unhide Hb).alloc hsz _))).mono ?_
          rintro e w3 ⟨t, rfl, ht, hb3⟩
          have htz : t.size ≤ 21 := itoa_size (by omega) (by omega) ht
          have Hb3 : Hid (Below w.heap.size w w3) := ((unhide Hb).alloc hsz _).then' (by simp; omega) hb3
          have k1 := hb3.cell (p := ⟨wr.heap.size, 1, none⟩) (by simp)
          simp at k1
          have Hn := hide ((unhide Hst _ ht).1 (by simp))
          clear ht hb3
          cases cc with
          | true =>
            go_wp2_with fail
            go_roundg (s.acs.length - (0 + 1 + 1))
            case measure => omega
            case rel => exact ⟨0 + 1 + 1, u ++ t ++ ⟨#[120]⟩, by omega, rfl, by go_num, rfl, by rw [ByteArray.size_append, ByteArray.size_append]; show u.size + t.size + 1 ≤ _; omega, by show _ = _; rw [L_append, L_append]; exact unhide Hn, unhide Hb3⟩
          | false =>
            go_wp2_with fail
            go_roundg (s.acs.length - (0 + 1 + 1))
            case measure => omega
            case rel => exact ⟨0 + 1 + 1, u ++ t, by omega, rfl, by go_num, rfl, by rw [ByteArray.size_append]; omega, by show _ = _; rw [L_append]; simpa using unhide Hn, unhide Hb3⟩
        · have hgt : decide ((1 : Int) < ((j + 1 : Nat) : Int)) = true := by simp; omega
          go_wp2_with fail
          refine (itoa_any cp _ (by omega) (by omega) ((unhide Ht).below (by exact (unhide Hb).alloc hsz _))).mono ?_
          rintro e w3 ⟨t, rfl, ht, hb3⟩
          have htz : t.size ≤ 21 := itoa_size (by omega) (by omega) ht
          have Hb3 : Hid (Below w.heap.size w w3) := ((unhide Hb).alloc hsz _).then' (by simp; omega) hb3
          have k1 := hb3.cell (p := ⟨wr.heap.size, 1, none⟩) (by simp)
          simp at k1
          have Hn := hide ((unhide Hst _ ht).2 (by omega))
          clear ht hb3
          cases cc with
          | true =>
            go_wp2_with fail
            go_roundg (s.acs.length - (j + 1 + 1))
            case measure => omega
            case rel => exact ⟨j + 1 + 1, u ++ ⟨#[44]⟩ ++ t ++ ⟨#[120]⟩, by omega, rfl, by go_num, rfl, by rw [ByteArray.size_append, ByteArray.size_append, ByteArray.size_append]; show u.size + 1 + t.size + 1 ≤ _; omega, by show _ = _; rw [L_append, L_append, L_append]; exact unhide Hn, unhide Hb3⟩
          | false =>
            go_wp2_with fail
            go_roundg (s.acs.length - (j + 1 + 1))
            case measure => omega
            case rel => exact ⟨j + 1 + 1, u ++ ⟨#[44]⟩ ++ t, by omega, rfl, by go_num, rfl, by rw [ByteArray.size_append, ByteArray.size_append]; show u.size + 1 + t.size ≤ _; omega, by show _ = _; rw [L_append, L_append]; have := unhide Hn; simpa [L] using this, unhide Hb3⟩
    · obtain rfl : j = s.acs.length := by omega
      go_wp2_with fail
      go_ret
      exact ⟨u, rfl, accL_all (unhide Hu), unhide Hb⟩

set_option maxHeartbeats 1000000 in
theorem dayAccounts_any (B p : Nat) (s : Bk) (w : World) (h : Led w B p s) (ht : Tab w) :
    Calls Tryz.prog 18 #[.pointer (some ⟨p, 0, none⟩)] w fun e w' => ∃ u : ByteArray, e = .returned (.string u) ∧ L u = accT s ∧ Below w.heap.size w w' := by
  have Hc := hide (ledAccounts_any B p s w h ht)
  clear h ht
  go_enter Tryz.func18, Tryz.ntmps18
  go_wp2_with fail
  refine (unhide Hc).mono ?_
  rintro e w1 ⟨u, rfl, hu, hb⟩
  have Hu := hide hu
  have Hb := hide hb
  clear hu hb
  go_wp2_with fail
  go_ret
  exact ⟨u, rfl, unhide Hu, unhide Hb⟩

set_option maxRecDepth 100000 in
set_option maxHeartbeats 4000000 in
theorem refAccounts_any (B p : Nat) (s : Bk) (w : World) (h : Rfd w B p s) :
    Calls Tryz.prog 19 #[.pointer (some ⟨p, 0, none⟩)] w fun e w' => ∃ u : ByteArray, e = .returned (.string u) ∧ L u = accT s ∧ Below w.heap.size w w' := by
  obtain ⟨vp, vc, vt, tv, h⟩ := h
  obtain ⟨g, cap, rfl, hg, hg'⟩ := ownsRow_some h.par h.good.one
  obtain ⟨g2, cap2, rfl, hg2, hg2'⟩ := ownsRow_some h.clo h.good.one
  have hfew := h.good.few
  have hone := h.good.one
  have H := hide h
  clear h
  go_enter Tryz.func19, Tryz.ntmps19
  go_wp2_with fail
  go_loopg [3, 4] s.acs.length (fun m vu i wr => ∃ j : Nat, ∃ u : ByteArray, j + 1 ≤ s.acs.length ∧ m = s.acs.length - j ∧ i = .int .i64 ((j + 1 : Nat) : Int) ∧ vu = .string u ∧ u.size ≤ 24 * j ∧ Hid (L u = jn 44 ((accL s).take j)) ∧ Hid (Below w.heap.size w wr))
  case atStart => exact ⟨0, ⟨#[]⟩, by omega, by omega, rfl, rfl, Nat.le_refl 0, rfl, Below.refl _ _⟩
  case round =>
    obtain ⟨j, u, hj, rfl, rfl, rfl, hus, Hu, Hb⟩ := hrel
    have hsz := (unhide Hb).size
    have H1 := hide ((unhide H).kept (unhide Hb))
    have c0 := (unhide H1).blk.cell 0
    simp only [List.getElem?_toArray, List.getElem?_cons_zero] at c0
    by_cases hlt : j + 1 < s.acs.length
    · obtain ⟨c, hc⟩ := acs_get hlt
      have d1 := ownsRow_cell (unhide H1).par (j := j + 1) (u := .int .i64 c.1) (by rw [List.getElem?_map, hc]; rfl)
      have hpar := (unhide H).good.par c (List.mem_of_getElem? hc)
      have Hst := hide (fun t => acc_step (t := t) hc (unhide Hu))
      have Hcl := hide (fun (wx : World) (hb : Below w.heap.size w wx) => ownsRow_cell ((unhide H).kept hb).clo (j := j + 1) (u := .bool c.2) (by rw [List.getElem?_map, hc]; rfl))
      obtain ⟨cp, cc⟩ := c
      simp only at d1 hpar Hst Hcl
      clear hc
      by_cases hj0 : j = 0
      · subst hj0
        go_wp2_with fail
        refine (number10_any cp _ (by omega) (by omega)).mono ?_
        rintro e w3 ⟨t, rfl, ht, hb3⟩
        have htz : t.size ≤ 21 := itoa_size (by omega) (by omega) ht
        have Hb3 : Hid (Below w.heap.size w w3) := (unhide Hb).then' (by omega) hb3
        have d2 := unhide Hcl _ (unhide Hb3)
        have c3 := ((unhide H).kept (unhide Hb3)).blk.cell 1
        simp only [List.getElem?_toArray, List.getElem?_cons_zero, List.getElem?_cons_succ] at c3
        have Hn := hide ((unhide Hst _ ht).1 (by simp))
        clear ht hb3
        cases cc with
        | true =>
          go_wp2_with fail
          go_roundg (s.acs.length - (0 + 1))
          case measure => omega
          case rel => exact ⟨0 + 1, u ++ t ++ ⟨#[120]⟩, by omega, rfl, by go_num, rfl, by rw [ByteArray.size_append, ByteArray.size_append]; show u.size + t.size + 1 ≤ _; omega, by show _ = _; rw [L_append, L_append]; exact unhide Hn, unhide Hb3⟩
        | false =>
          go_wp2_with fail
          go_roundg (s.acs.length - (0 + 1))
          case measure => omega
          case rel => exact ⟨0 + 1, u ++ t, by omega, rfl, by go_num, rfl, by rw [ByteArray.size_append]; omega, by show _ = _; rw [L_append]; simpa using unhide Hn, unhide Hb3⟩
      · have hgt : decide ((1 : Int) < ((j + 1 : Nat) : Int)) = true := by simp; omega
        go_wp2_with fail
        refine (number10_any cp _ (by omega) (by omega)).mono ?_
        rintro e w3 ⟨t, rfl, ht, hb3⟩
        have htz : t.size ≤ 21 := itoa_size (by omega) (by omega) ht
        have Hb3 : Hid (Below w.heap.size w w3) := (unhide Hb).then' (by omega) hb3
        have d2 := unhide Hcl _ (unhide Hb3)
        have c3 := ((unhide H).kept (unhide Hb3)).blk.cell 1
        simp only [List.getElem?_toArray, List.getElem?_cons_zero, List.getElem?_cons_succ] at c3
        have Hn := hide ((unhide Hst _ ht).2 (by omega))
        clear ht hb3
        cases cc with
        | true =>
          go_wp2_with fail
          go_roundg (s.acs.length - (j + 1))
          case measure => omega
          case rel => exact ⟨j + 1, u ++ ⟨#[44]⟩ ++ t ++ ⟨#[120]⟩, by omega, rfl, by go_num, rfl, by rw [ByteArray.size_append, ByteArray.size_append, ByteArray.size_append]; show u.size + 1 + t.size + 1 ≤ _; omega, by show _ = _; rw [L_append, L_append, L_append]; exact unhide Hn, unhide Hb3⟩
        | false =>
          go_wp2_with fail
          go_roundg (s.acs.length - (j + 1))
          case measure => omega
          case rel => exact ⟨j + 1, u ++ ⟨#[44]⟩ ++ t, by omega, rfl, by go_num, rfl, by rw [ByteArray.size_append, ByteArray.size_append]; show u.size + 1 + t.size ≤ _; omega, by show _ = _; rw [L_append, L_append]; have := unhide Hn; simpa [L] using this, unhide Hb3⟩
    · obtain rfl : j = s.acs.length - 1 := by omega
      go_wp2_with fail
      go_ret
      exact ⟨u, rfl, accL_all (unhide Hu), unhide Hb⟩

end Go.Proofs.YtdchbenfccofpaaGreatDoor
