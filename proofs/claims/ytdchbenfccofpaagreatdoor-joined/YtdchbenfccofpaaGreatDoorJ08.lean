/- A record and a book of one Bk: says, do. A record and a book: ready, played. Lines that came in: from the reading of the argument to the list that a walk wants. Steps on a book that came in: from the reading of the argument to the lists that a walk wants. The form of a report: how the document's spots go on over pieces of a text. The form of a report, on: operands with a sign; where a text stops. The shape of rows without blanks: how cutting them goes over their pieces. Expressions, terms and factors without blanks: each is cut as the document says. Operands; what reading a factor, a term, an expression comes to. -/
import Derived.Test.YtdchbenfccofpaaGreatDoorJ07
import Derived.Test.YtdchbenfccofpaaGreatDoorJ03
import Derived.Deep.SlicePairs
import Derived.SizedLaws
import Derived.Carry
import Derived.ProofKit
import Derived.OpenShut
import Derived.Test.YtdchbenfccofpaaGreatDoorJ02
namespace Go.Proofs.YtdchbenfccofpaaGreatDoor
open Go.RowKit Db

theorem opn_yes {s : Bk} {a : Int} (h : (opn s a).2.1 = 0) : ∃ (k : Nat) (c : Ac), a = k ∧ s.acs[k]? = some c ∧ c.2 = false ∧ s.acs.length < 16 ∧ opn s a = ((s.acs.length : Int), 0, { s with acs := s.acs ++ [((k : Int), false)] }) := by
  unfold opn at h ⊢
  split at h
  · simp at h
  split at h
  · simp at h
  split at h
  · simp at h
  rename_i h1 h2 h3
  have h4 : ther s a = true := by cases hx : ther s a with | true => rfl | false => exact absurd hx h1
  have h5 := h4
  unfold ther at h5
  simp only [Bool.and_eq_true, decide_eq_true_eq] at h5
  obtain ⟨k, rfl⟩ : ∃ k : Nat, a = k := ⟨a.toNat, by omega⟩
  obtain ⟨c, hc⟩ := acs_get (s := s) (k := k) (by omega)
  refine ⟨k, c, rfl, hc, ?_, by omega, by rw [if_neg h1, if_neg h2, if_neg h3]⟩
  rw [← clsd_at hc]
  simpa using h2
theorem cls_yes {s : Bk} {a : Int} (h : (cls s a).1 = 0) : ∃ (k : Nat) (c : Ac), a = k ∧ s.acs[k]? = some c ∧ 1 ≤ k ∧ c.2 = false ∧ cls s a = (0, { s with acs := s.acs.set k (c.1, true) }) := by
  unfold cls at h ⊢
  split at h
  · simp at h
  split at h
  · simp at h
  split at h
  · simp at h
  split at h
  · simp at h
  rename_i h1 h2 h3 h6
  have h4 : ther s a = true := by cases hx : ther s a with | true => rfl | false => exact absurd (.inl hx) h1
  have h0 : ¬ a = 0 := fun e => h1 (.inr e)
  have h5 := h4
  unfold ther at h5
  simp only [Bool.and_eq_true, decide_eq_true_eq] at h5
  obtain ⟨k, rfl⟩ : ∃ k : Nat, a = k := ⟨a.toNat, by omega⟩
  obtain ⟨c, hc⟩ := acs_get (s := s) (k := k) (by omega)
  refine ⟨k, c, rfl, hc, by omega, ?_, ?_⟩
  · rw [← clsd_at hc]
    simpa using h2
  · rw [if_neg h1, if_neg h2, if_neg h3, if_neg h6]
    simp [hc]
theorem lnsE_open {s : Bk} {ls : List Ln} (h : lnsE s ls = 0) : (∀ l ∈ ls, clsd s l.1 = false) ∧ sumL ls = 0 := by
  unfold lnsE at h
  split at h
  · simp at h
  split at h
  · simp at h
  split at h
  · simp at h
  split at h
  · simp at h
  split at h
  · simp at h
  rename_i h4 h5
  refine ⟨fun l hl => ?_, by simpa using h5⟩
  cases hx : clsd s l.1 with
  | false => rfl
  | true => exact absurd (List.any_eq_true.2 ⟨l, hl, hx⟩) h4
theorem pst_yes {s : Bk} (hg : BkGood s) {a b : Int} {ls : List Ln} (h : (pst s a b ls).1 = 0) : (∃ t, findT a s.txs = some t ∧ t.2.1 = b ∧ t.2.2 = ls ∧ (pst s a b ls).2 = s) ∨
    (findT a s.txs = none ∧ ls.length ≤ 4 ∧ s.txs.length < 64 ∧ (∀ l ∈ ls, 0 < l.1 ∧ l.1 < s.acs.length ∧ -1000000000000 ≤ l.2 ∧ l.2 ≤ 1000000000000 ∧ clsd s l.1 = false) ∧ sumL ls = 0 ∧ (pst s a b ls).2 = { s with txs := s.txs ++ [(a, b, ls)] }) := by
  by_cases hid : a < 0 ∨ 9999 < a
  · rw [pst_id hid] at h; simp at h
  cases hfd : findT a s.txs with
  | some t =>
    rw [pst_old hid hfd] at h ⊢
    left
    unfold repE at h
    simp only at h
    refine ⟨t, rfl, ?_⟩
    by_cases hx : t.2.1 = b ∧ t.2.2 = ls
    · exact ⟨hx.1, hx.2, rfl⟩
    · rw [if_neg hx] at h; simp at h
  | none =>
    right
    by_cases hd : b < 0 ∨ 999 < b
    · rw [pst_day hid hfd hd] at h; simp at h
    by_cases hlz : lnsE s ls = 0
    · by_cases h64 : 64 ≤ s.txs.length
      · rw [pst_full hid hfd hd hlz h64] at h; simp at h
      · have h1 := lnsE_ok hg hlz
        have h2 := lnsE_open hlz
        refine ⟨rfl, h1.1, by omega, fun l hl => ?_, h2.2, by rw [pst_ok hid hfd hd hlz h64]⟩
        obtain ⟨k1, k2, k3, k4⟩ := h1.2 l hl
        exact ⟨k1, k2, k3, k4, h2.1 l hl⟩
    · rw [pst_bad hid hfd hd hlz] at h; exact absurd h hlz
theorem clE_no {s : Bk} {kd a b : Int} {ls : List Ln} (h : ¬ (clE s kd a b ls).2.1 = 0) : (clE s kd a b ls).1 = 0 ∧ (clE s kd a b ls).2.2 = s := by
  unfold clE at h ⊢
  split at h
  · rename_i h1
    rw [if_pos h1]
    unfold opn at h ⊢
    repeat' split
    all_goals first | exact ⟨rfl, rfl⟩ | skip
    rename_i e1 e2 e3
    rw [if_neg e1, if_neg e2, if_neg e3] at h
    simp at h
  · rename_i h1
    rw [if_neg h1]
    split at h
    · rename_i h2
      rw [if_pos h2]
      refine ⟨rfl, ?_⟩
      unfold cls at h ⊢
      repeat' split
      all_goals first | rfl | skip
      rename_i e1 e2 e3 e4
      simp only [if_neg e1, if_neg e2, if_neg e3, if_neg e4] at h
      simp at h
    · rename_i h2
      rw [if_neg h2]
      split at h
      · rename_i h3
        rw [if_pos h3]
        refine ⟨rfl, ?_⟩
        unfold pst at h ⊢
        simp only at h
        split
        · rfl
        · rename_i e1
          rw [if_neg e1] at h
          split
          · rfl
          · rename_i e2
            rw [e2] at h
            simp only at h
            repeat' split
            all_goals first | rfl | skip
            rename_i f1 f2 f3
            rw [if_neg f1, if_neg f2, if_neg f3] at h
            simp at h
      · simp at h
theorem clE_good {s : Bk} (hg : BkGood s) (kd a b : Int) (ls : List Ln) : BkGood (clE s kd a b ls).2.2 := by
  unfold clE
  repeat' split
  · exact hg.opn a
  · exact hg.cls a
  · exact hg.pst a b ls
  · exact hg

theorem Rec.good {w : World} {B q : Nat} {s : Bk} (h : Rec w B q s) : BkGood s := by obtain ⟨_, _, _, _, h⟩ := h; exact h.good
theorem Rec.frP {w w' : World} {B B' q : Nat} {s : Bk} (h : Rec w B q s) (hf : FrT B' tP w w') : Rec w' B q s := by
  obtain ⟨vp, vc, vt, tv, h⟩ := h
  exact ⟨_, _, _, _, h.frT hf (by decide) (by decide)⟩
theorem LedW.frK {w w' : World} {B B' p u : Nat} {ws : List Wr} {s : Bk} (h : LedW w B p u ws s) (hf : FrT B' tK w w') : LedW w' B p u ws s := by
  obtain ⟨va, vt, tv, vw, h⟩ := h
  exact ⟨_, _, _, _, h.frT hf (by decide) (by decide)⟩
theorem LedW.kept {w w' : World} {B p u : Nat} {ws : List Wr} {s : Bk} (h : LedW w B p u ws s) (hb : Below w.heap.size w w') : LedW w' B p u ws s := by
  obtain ⟨va, vt, tv, vw, h⟩ := h
  exact ⟨_, _, _, _, h.kept hb⟩
def tPK : List TypeId := tP ++ tK

set_option maxRecDepth 100000 in
set_option maxHeartbeats 1000000 in
theorem yes_none (B q : Nat) (s : Bk) (kd a b n : Int) (ao : Option Addr) (m cap : Nat) (w : World) (h : Rec w B q s) (h1 : ¬ kd = 1) (h2 : ¬ kd = 2) (h3 : ¬ kd = 3) :
    Calls Tryz.prog 38 #[.pointer (some ⟨q, 0, none⟩), .agg #[.int .i64 kd, .int .i64 a, .int .i64 b, .slice ao m cap], .int .i64 n] w fun e w' => e = .returned (.bool true) ∧ Rec w' B q s ∧ FrT B tK w w' := by
  have n1 : (kd == 1) = false := by simpa using h1
  have n2 : (kd == 2) = false := by simpa using h2
  have n3 : (kd == 3) = false := by simpa using h3
  have H := hide h
  clear h h1 h2 h3
  go_enter Tryz.func38, Tryz.ntmps38
  go_wp2_with fail
  go_ret
  have hb := (Below.refl _ w).alloc (Nat.le_refl _) (.cells #[.int .i64 kd, .int .i64 a, .int .i64 b, .slice ao m cap] 76)
  exact ⟨rfl, (unhide H).kept hb, FrT.of_below hb⟩

theorem yes_any (B q : Nat) (s : Bk) (kd a b : Int) (ao : Option Addr) (cap : Nat) (ls : List Ln) (w : World) (h : Rec w B q s) (hl : LinesAt w (.slice ao ls.length cap) ls) (he : (clE s kd a b ls).2.1 = 0) :
    Calls Tryz.prog 38 #[.pointer (some ⟨q, 0, none⟩), .agg #[.int .i64 kd, .int .i64 a, .int .i64 b, .slice ao ls.length cap], .int .i64 (clE s kd a b ls).1] w fun e w' => e = .returned (.bool true) ∧ Rec w' B q (clE s kd a b ls).2.2 ∧ FrT B tK w w' := by
  have hg := clE_good h.good kd a b ls
  by_cases h1 : kd = 1
  · subst h1
    have e1 : clE s 1 a b ls = opn s a := rfl
    rw [e1] at he hg ⊢
    obtain ⟨k, c, rfl, hc, hcc, h16, e2⟩ := opn_yes he
    rw [e2] at hg ⊢
    exact yes_open B q s k b ao ls.length cap c w h hc hcc h16 hg
  by_cases h2 : kd = 2
  · subst h2
    have e1 : clE s 2 a b ls = (0, (cls s a).1, (cls s a).2) := rfl
    rw [e1] at he hg ⊢
    obtain ⟨k, c, rfl, hc, h0, hcc, e2⟩ := cls_yes he
    rw [e2] at hg ⊢
    exact yes_close B q s k b 0 ao ls.length cap c w h hc h0 hcc hg
  by_cases h3 : kd = 3
  · subst h3
    have e1 : clE s 3 a b ls = (0, (pst s a b ls).1, (pst s a b ls).2) := rfl
    rw [e1] at he hg ⊢
    rcases pst_yes h.good he with ⟨t, hf, hb, hls, e2⟩ | ⟨hf, h4, h64, hls, hsum, e2⟩
    · simp only at hg ⊢
      rw [e2]
      exact (yes_old B q s a b 0 ao cap ls t w h hl hf hb hls).mono fun _ _ ⟨k1, k2⟩ => ⟨k1, h.kept k2, FrT.of_below k2⟩
    · simp only at hg ⊢
      rw [e2] at hg ⊢
      exact yes_post B q s a b 0 ao cap ls w h hl hf h4 h64 hls hsum hg
  · have e1 : clE s kd a b ls = (0, 0, s) := by unfold clE; rw [if_neg h1, if_neg h2, if_neg h3]
    rw [e1]
    exact yes_none B q s kd a b 0 ao ls.length cap w h h1 h2 h3

set_option maxRecDepth 100000 in
set_option maxHeartbeats 2000000 in
theorem says_any (B q p u : Nat) (ws : List Wr) (s : Bk) (kd a b : Int) (ao : Option Addr) (cap : Nat) (ls : List Ln) (w : World) (hr : Rec w B q s) (hb : LedW w B p u ws s) (hk : ∀ w', FrT B tP w w' → LinesAt w' (.slice ao ls.length cap) ls) (hn : ls.length ≤ 8796093022000) :
    Calls Tryz.prog 91 #[.pointer (some ⟨q, 0, none⟩), .pointer (some ⟨p, 0, none⟩), .agg #[.int .i64 kd, .int .i64 a, .int .i64 b, .slice ao ls.length cap]] w fun e w' => e = .returned (.bool true) ∧ Rec w' B q (clE s kd a b ls).2.2 ∧ LedW w' B p (dkU (clY s kd a b ls) u) (dkW (clY s kd a b ls) u (clX kd a b ls) ws) (clE s kd a b ls).2.2 ∧ FrT B tPK w w' := by
  obtain ⟨bx, hbx⟩ : ∃ bx, w.heap.size = bx := ⟨_, rfl⟩
  obtain ⟨W, hW⟩ : ∃ W, w.alloc (.cells #[.int .i64 kd, .int .i64 a, .int .i64 b, .slice ao ls.length cap] 76) = W := ⟨_, rfl⟩
  have HX : Hid (Blk W bx #[.int .i64 kd, .int .i64 a, .int .i64 b, .slice ao ls.length cap] 76) := by rw [← hW, ← hbx]; exact Blk.new _ _ _
  have Hb0 : Hid (Below w.heap.size w W) := by rw [← hW]; exact (Below.refl _ _).alloc (Nat.le_refl _) _
  have Hc := hide (calledW_any B p u ws s kd a b ao cap ls W (hb.kept (unhide Hb0)) (hk W (FrT.of_below (unhide Hb0))) hn)
  have HR0 := hide (hr.kept (unhide Hb0))
  have HK : Hid (∀ w', FrT B tP W w' → LinesAt w' (.slice ao ls.length cap) ls) := fun w' hf => hk w' ((FrT.of_below (unhide Hb0)).trans hf)
  have Hno := hide (fun h => clE_no (s := s) (kd := kd) (a := a) (b := b) (ls := ls) h)
  have Hy := hide (fun (wx : World) (h : Rec wx B q s) (hl : LinesAt wx (.slice ao ls.length cap) ls) (he : (clE s kd a b ls).2.1 = 0) => yes_any B q s kd a b ao cap ls wx h hl he)
  obtain ⟨⟨x, y, s'⟩, hcl⟩ : ∃ r, clE s kd a b ls = r := ⟨_, rfl⟩
  obtain ⟨u', hu'⟩ : ∃ u', dkU (clY s kd a b ls) u = u' := ⟨_, rfl⟩
  obtain ⟨ws', hws'⟩ : ∃ ws', dkW (clY s kd a b ls) u (clX kd a b ls) ws = ws' := ⟨_, rfl⟩
  rw [hcl, hu', hws'] at Hc ⊢
  rw [hcl] at Hno Hy
  simp only at Hc Hno Hy ⊢
  have x0 := (unhide HX).cell 0
  have x1 := (unhide HX).cell 1
  have x2 := (unhide HX).cell 2
  have x3 := (unhide HX).cell 3
  simp only [List.getElem?_toArray, List.getElem?_cons_zero, List.getElem?_cons_succ] at x0 x1 x2 x3
  clear hr hb hk hcl hu' hws'
  by_cases hy : y = 0
  · subst hy
    go_enter Tryz.func91, Tryz.ntmps91
    go_wp2_with fail
    try rw [hW]
    try rw [hbx]
    clear hW hbx
    refine (unhide Hc).mono ?_
    rintro e w1 ⟨rfl, k1, k2⟩
    have K1 := hide k1
    have K2 := hide k2
    have HX1 := hide ((unhide HX).frT k2 (by decide))
    have Hyy := hide (unhide Hy w1 ((unhide HR0).frP k2) (unhide HK w1 k2) (by trivial))
    have y0 := (unhide HX1).cell 0
    have y1 := (unhide HX1).cell 1
    have y2 := (unhide HX1).cell 2
    have y3 := (unhide HX1).cell 3
    simp only [List.getElem?_toArray, List.getElem?_cons_zero, List.getElem?_cons_succ] at y0 y1 y2 y3
    clear k1 k2 x0 x1 x2 x3 Hc Hy
    go_wp2_with fail
    refine (unhide Hyy).mono ?_
    rintro e w2 ⟨rfl, j1, j2⟩
    have HF : Hid (Rec w2 B q s' ∧ LedW w2 B p u' ws' s' ∧ FrT B tPK w w2) := ⟨j1, (unhide K1).frK j2, ((FrT.of_below (unhide Hb0)).trans ((unhide K2).mono (by simp [tPK]; intros; simp [*]))).trans (j2.mono (by simp [tPK]; intros; simp [*]))⟩
    clear j1 j2 Hyy
    go_wp2_with fail
    go_ret
    exact ⟨rfl, unhide HF⟩
  · have hye : (y == 0) = false := by simpa using hy
    obtain ⟨rfl, rfl⟩ := unhide Hno hy
    go_enter Tryz.func91, Tryz.ntmps91
    go_wp2_with fail
    try rw [hW]
    try rw [hbx]
    clear hW hbx
    refine (unhide Hc).mono ?_
    rintro e w1 ⟨rfl, k1, k2⟩
    have HF : Hid (Rec w1 B q s' ∧ LedW w1 B p u' ws' s' ∧ FrT B tPK w w1) := ⟨(unhide HR0).frP k2, k1, (FrT.of_below (unhide Hb0)).trans (k2.mono (by simp [tPK]; intros; simp [*]))⟩
    clear k1 k2 Hc
    go_wp2_with fail
    go_ret
    exact ⟨rfl, unhide HF⟩

set_option maxRecDepth 100000 in
set_option maxHeartbeats 2000000 in
theorem kdo_any (B q p u : Nat) (ws : List Wr) (s : Bk) (kd a b : Int) (ao : Option Addr) (cap : Nat) (ls : List Ln) (w : World) (hr : Rec w B q s) (hb : LedW w B p u ws s) (hk : ∀ w', FrT B tP w w' → LinesAt w' (.slice ao ls.length cap) ls) (hn : ls.length ≤ 8796093022000) (hB : ∀ w', FrT B tPK w w' → Tab w') :
    Calls Tryz.prog 56 #[.pointer (some ⟨q, 0, none⟩), .pointer (some ⟨p, 0, none⟩), .agg #[.int .i64 kd, .int .i64 a, .int .i64 b, .slice ao ls.length cap]] w fun e w' => e = .returned (.bool true) ∧ Rec w' B q (clE s kd a b ls).2.2 ∧ LedW w' B p (dkU (clY s kd a b ls) u) (dkW (clY s kd a b ls) u (clX kd a b ls) ws) (clE s kd a b ls).2.2 ∧ FrT B tPK w w' := by
  obtain ⟨bx, hbx⟩ : ∃ bx, w.heap.size = bx := ⟨_, rfl⟩
  obtain ⟨W, hW⟩ : ∃ W, w.alloc (.cells #[.int .i64 kd, .int .i64 a, .int .i64 b, .slice ao ls.length cap] 76) = W := ⟨_, rfl⟩
  have HX : Hid (Blk W bx #[.int .i64 kd, .int .i64 a, .int .i64 b, .slice ao ls.length cap] 76) := by rw [← hW, ← hbx]; exact Blk.new _ _ _
  have Hb0 : Hid (Below w.heap.size w W) := by rw [← hW]; exact (Below.refl _ _).alloc (Nat.le_refl _) _
  have Hc := hide (says_any B q p u ws s kd a b ao cap ls W (hr.kept (unhide Hb0)) (hb.kept (unhide Hb0)) (fun w' hf => hk w' ((FrT.of_below (unhide Hb0)).trans hf)) hn)
  obtain ⟨s', hs'⟩ : ∃ r, (clE s kd a b ls).2.2 = r := ⟨_, rfl⟩
  obtain ⟨u', hu'⟩ : ∃ u', dkU (clY s kd a b ls) u = u' := ⟨_, rfl⟩
  obtain ⟨ws', hws'⟩ : ∃ ws', dkW (clY s kd a b ls) u (clX kd a b ls) ws = ws' := ⟨_, rfl⟩
  rw [hs', hu', hws'] at Hc ⊢
  have x0 := (unhide HX).cell 0
  have x1 := (unhide HX).cell 1
  have x2 := (unhide HX).cell 2
  have x3 := (unhide HX).cell 3
  simp only [List.getElem?_toArray, List.getElem?_cons_zero, List.getElem?_cons_succ] at x0 x1 x2 x3
  have HT := hide hB
  clear hr hb hk hs' hu' hws' hB
  go_enter Tryz.func56, Tryz.ntmps56
  go_wp2_with fail
  try rw [hW]
  try rw [hbx]
  clear hW hbx
  refine (unhide Hc).mono ?_
  rintro e w1 ⟨rfl, k1, k2, k3⟩
  have HF : Hid (Rec w1 B q s' ∧ LedW w1 B p u' ws' s' ∧ FrT B tPK w w1) := ⟨k1, k2, (FrT.of_below (unhide Hb0)).trans k3⟩
  have Ht1 := hide (unhide HT w1 ((FrT.of_below (unhide Hb0)).trans k3))
  clear k1 k2 k3 Hc x0 x1 x2 x3
  go_wp2_with fail
  refine (tells_any B B q p s' w1 (unhide HF).1 (unhide HF).2.1.led (unhide Ht1)).mono ?_
  rintro e w2 ⟨rfl, j1⟩
  have HF2 : Hid (Rec w2 B q s' ∧ LedW w2 B p u' ws' s' ∧ FrT B tPK w w2) := ⟨(unhide HF).1.kept j1, (unhide HF).2.1.kept j1, (unhide HF).2.2.then j1⟩
  clear j1
  go_wp2_with fail
  go_ret
  exact ⟨rfl, unhide HF2⟩

end Go.Proofs.YtdchbenfccofpaaGreatDoor
namespace Go.Proofs.YtdchbenfccofpaaGreatDoor
open Go.RowKit Db

/-- A step as it came in. -/
structure KAct where
  kd : Int
  a : Int
  b : Int
  ao : Option Addr
  cap : Nat
  ls : List Ln
def KAct.val (x : KAct) : Value := .agg #[.int .i64 x.kd, .int .i64 x.a, .int .i64 x.b, .slice x.ao x.ls.length x.cap]
/-- A book, its sectors used and what is not yet told; a step on it. -/
structure KS where
  s : Bk
  u : Nat
  ws : List Wr
def kstep (t : KS) (x : KAct) : KS := ⟨(clE t.s x.kd x.a x.b x.ls).2.2, dkU (clY t.s x.kd x.a x.b x.ls) t.u, dkW (clY t.s x.kd x.a x.b x.ls) t.u (clX x.kd x.a x.b x.ls) t.ws⟩
def krun (t : KS) (xs : List KAct) : KS := xs.foldl kstep t
theorem krun_step {t : KS} {xs : List KAct} {j : Nat} {x : KAct} (h : xs[j]? = some x) : krun t (xs.take (j + 1)) = kstep (krun t (xs.take j)) x := by
  unfold krun
  rw [List.take_add_one, h]
  simp
def rdL : List KAct := [⟨1, 0, 0, none, 0, []⟩, ⟨1, 0, 0, none, 0, []⟩, ⟨1, 1, 0, none, 0, []⟩, ⟨3, 1, 5, none, 2, [(2, 7), (3, -7)]⟩]
def rdS (j : Nat) : KS := krun ⟨bk0, 0, []⟩ (rdL.take j)
def rdy : KS := krun ⟨bk0, 0, []⟩ rdL
/-- A record and a book of one state. -/
structure KP (w : World) (B q p : Nat) (t : KS) : Prop where
  rec' : Rec w B q t.s
  led : LedW w B p t.u t.ws t.s
theorem KP.kept {w w' : World} {B q p : Nat} {t : KS} (h : KP w B q p t) (hb : Below w.heap.size w w') : KP w' B q p t := ⟨h.rec'.kept hb, h.led.kept hb⟩
theorem RecAt.base {w : World} {B B' p : Nat} {vp vc vt : Value} {tv : List (Tn × Value)} {s : Bk} (h : RecAt w B p vp vc vt tv s) (hB : B' ≤ B) : RecAt w B' p vp vc vt tv s :=
  ⟨h.blk, Nat.le_trans hB h.lo, ownsRow_base h.par (fun k hk => Nat.le_trans hB (ownsRow_tg h.par k hk).1), ownsRow_base h.clo (fun k hk => Nat.le_trans hB (ownsRow_tg h.clo k hk).1), ⟨ownsRow_base h.txs.own (fun k hk => Nat.le_trans hB (ownsRow_tg h.txs.own k hk).1), fun x hx => ownsRow_base (h.txs.lns x hx) (fun k hk => Nat.le_trans hB (ownsRow_tg (h.txs.lns x hx) k hk).1)⟩, h.jr, h.good⟩
theorem Rec.base {w : World} {B B' p : Nat} {s : Bk} (h : Rec w B p s) (hB : B' ≤ B) : Rec w B' p s := by
  obtain ⟨_, _, _, _, h⟩ := h; exact ⟨_, _, _, _, h.base hB⟩

set_option maxRecDepth 100000 in
set_option maxHeartbeats 4000000 in
theorem ready_any (w : World) (ht : Tab w) :
    Calls Tryz.prog 33 #[] w fun e w' => ∃ q p, e = .returned (.tuple #[.pointer (some ⟨p, 0, none⟩), .pointer (some ⟨q, 0, none⟩), .bool true]) ∧ KP w' w.heap.size q p rdy ∧ Below w.heap.size w w' := by
  have Ht := hide ht
  clear ht
  go_enter Tryz.func33, Tryz.ntmps33
  go_wp2_with fail
  refine (dayNew_any _).mono ?_
  rintro e w1 ⟨p, rfl, h1, hb1⟩
  have H1 := hide h1
  have Hb1 := hide hb1
  clear h1 hb1
  go_wp2_with fail
  refine (blank_any _).mono ?_
  rintro e w2 ⟨q, rfl, h2, hb2⟩
  have hs1 := (unhide Hb1).size
  have HP2 : Hid (KP w2 w.heap.size q p (rdS 0)) := ⟨h2.base hs1, (unhide H1).kept hb2⟩
  have Hb2 := hide ((unhide Hb1).then hb2)
  clear h2 hb2 H1
  go_wp2_with fail
  refine (tells_any w.heap.size w.heap.size q p bk0 w2 (unhide HP2).rec' (unhide HP2).led.led ((unhide Ht).below (unhide Hb2))).mono ?_
  rintro e w3 ⟨rfl, hb3⟩
  have HP3 := hide ((unhide HP2).kept hb3)
  have Hb3 := hide ((unhide Hb2).then hb3)
  have hs3 := (unhide Hb3).size
  clear hb3 HP2
  obtain ⟨gL, hgL⟩ : ∃ g, w3.heap.size = g := ⟨_, rfl⟩
  obtain ⟨w4, hw4⟩ : ∃ w4, w3.alloc (.cells #[.int .i64 2, .int .i64 7, .int .i64 3, .int .i64 (-7)] 89) = w4 := ⟨_, rfl⟩
  have HL4 : Hid (Blk w4 gL #[.int .i64 2, .int .i64 7, .int .i64 3, .int .i64 (-7)] 89) := by rw [← hw4, ← hgL]; exact Blk.new _ _ _
  have hs4 : w4.heap.size = gL + 1 := by rw [← hw4, ← hgL]; simp
  obtain ⟨w5, hw5⟩ : ∃ w5, w4.alloc (.cells #[.int .i64 1, .int .i64 0, .int .i64 0, .slice none 0 0, .int .i64 1, .int .i64 0, .int .i64 0, .slice none 0 0, .int .i64 1, .int .i64 1, .int .i64 0, .slice none 0 0, .int .i64 3, .int .i64 1, .int .i64 5, .slice (some ⟨gL, 0, none⟩) 2 2] 76) = w5 := ⟨_, rfl⟩
  have HA5 : Hid (Blk w5 (gL + 1) #[.int .i64 1, .int .i64 0, .int .i64 0, .slice none 0 0, .int .i64 1, .int .i64 0, .int .i64 0, .slice none 0 0, .int .i64 1, .int .i64 1, .int .i64 0, .slice none 0 0, .int .i64 3, .int .i64 1, .int .i64 5, .slice (some ⟨gL, 0, none⟩) 2 2] 76) := by rw [← hw5, ← hs4]; exact Blk.new _ _ _
  have hb34 : Below w3.heap.size w3 w4 := by rw [← hw4]; exact (Below.refl _ _).alloc (Nat.le_refl _) _
  have hb45 : Below w4.heap.size w4 w5 := by rw [← hw5]; exact (Below.refl _ _).alloc (Nat.le_refl _) _
  have HL5 := hide ((unhide HL4).kept hb45)
  have HP5 := hide (((unhide HP3).kept hb34).kept hb45)
  have Hb5 := hide (((unhide Hb3).then hb34).then hb45)
  clear hb34 hb45 HL4 HP3
  go_wp2_with fail
  try rw [hgL]
  try rw [hw4]
  try rw [hs4]
  try rw [hw5]
  clear hgL hw4 hw5 hs4 hs3
  go_loopg [5, 7] 4 (fun m vo vi wr => ∃ j : Nat, j ≤ 4 ∧ m = 4 - j ∧ vi = .int .i64 j ∧ vo = .bool true ∧ Hid (KP wr w.heap.size q p (rdS j)) ∧ Hid (Blk wr gL #[.int .i64 2, .int .i64 7, .int .i64 3, .int .i64 (-7)] 89) ∧ Hid (Blk wr (gL + 1) #[.int .i64 1, .int .i64 0, .int .i64 0, .slice none 0 0, .int .i64 1, .int .i64 0, .int .i64 0, .slice none 0 0, .int .i64 1, .int .i64 1, .int .i64 0, .slice none 0 0, .int .i64 3, .int .i64 1, .int .i64 5, .slice (some ⟨gL, 0, none⟩) 2 2] 76) ∧ Hid (Below w.heap.size w wr))
  case atStart => exact ⟨0, by omega, rfl, rfl, rfl, unhide HP5, unhide HL5, unhide HA5, unhide Hb5⟩
  case round =>
    obtain ⟨j, hj, rfl, rfl, rfl, HP, HL, HA, Hb⟩ := hrel
    by_cases hlt : j < 4
    · obtain ⟨kd, a, b, ao, cap, ls, d0, d1, d2, d3, hlk, hll, herr, hst⟩ : ∃ (kd a b : Int) (ao : Option Addr) (cap : Nat) (ls : List Ln), wr.cell? ⟨gL + 1, j * 4, none⟩ = some (.int .i64 kd) ∧ wr.cell? ⟨gL + 1, j * 4 + 1, none⟩ = some (.int .i64 a) ∧ wr.cell? ⟨gL + 1, j * 4 + 2, none⟩ = some (.int .i64 b) ∧ wr.cell? ⟨gL + 1, j * 4 + 3, none⟩ = some (.slice ao ls.length cap) ∧
          (∀ w', FrT w.heap.size tP wr w' → LinesAt w' (.slice ao ls.length cap) ls) ∧ ls.length ≤ 2 ∧ (clE (rdS j).s kd a b ls).2.1 = 0 ∧ rdS (j + 1) = kstep (rdS j) ⟨kd, a, b, ao, cap, ls⟩ := by
        have hc := fun i => (unhide HA).cell i
        have hln : ∀ w', FrT w.heap.size tP wr w' → LinesAt w' (.slice (some ⟨gL, 0, none⟩) 2 2) [(2, 7), (3, -7)] := fun w' hf => LinesAt.of_blk (cap := 2) (ls := [(2, 7), (3, -7)]) ((unhide HL).frT hf (by decide))
        rcases j with _ | _ | _ | _ | j
        · exact ⟨1, 0, 0, none, 0, [], by rw [hc]; rfl, by rw [hc]; rfl, by rw [hc]; rfl, by rw [hc]; rfl, fun w' _ => LinesAt.nil w', by simp, rfl, rfl⟩
        · exact ⟨1, 0, 0, none, 0, [], by rw [hc]; rfl, by rw [hc]; rfl, by rw [hc]; rfl, by rw [hc]; rfl, fun w' _ => LinesAt.nil w', by simp, rfl, rfl⟩
        · exact ⟨1, 1, 0, none, 0, [], by rw [hc]; rfl, by rw [hc]; rfl, by rw [hc]; rfl, by rw [hc]; rfl, fun w' _ => LinesAt.nil w', by simp, rfl, rfl⟩
        · exact ⟨3, 1, 5, some ⟨gL, 0, none⟩, 2, [(2, 7), (3, -7)], by rw [hc]; rfl, by rw [hc]; rfl, by rw [hc]; rfl, by rw [hc]; rfl, hln, by simp, rfl, rfl⟩
        · omega
      have hsz := (unhide Hb).size
      obtain ⟨t, ht⟩ : ∃ t, rdS j = t := ⟨_, rfl⟩
      rw [ht] at HP herr hst
      have Hst := hide hst
      have Hlk := hide hlk
      have Hc := hide (calledW_any w.heap.size p t.u t.ws t.s kd a b ao cap ls wr (unhide HP).led (hlk wr (FrT.refl _ _ _)) (by omega))
      have Hy := hide (fun (wx : World) (h : Rec wx w.heap.size q t.s) (hl : LinesAt wx (.slice ao ls.length cap) ls) => yes_any w.heap.size q t.s kd a b ao cap ls wx h hl herr)
      rw [herr] at Hc
      obtain ⟨x, hx⟩ : ∃ x, (clE t.s kd a b ls).1 = x := ⟨_, rfl⟩
      obtain ⟨s', hs'⟩ : ∃ x, (clE t.s kd a b ls).2.2 = x := ⟨_, rfl⟩
      obtain ⟨u', hu'⟩ : ∃ u', dkU (clY t.s kd a b ls) t.u = u' := ⟨_, rfl⟩
      obtain ⟨ws', hws'⟩ : ∃ ws', dkW (clY t.s kd a b ls) t.u (clX kd a b ls) t.ws = ws' := ⟨_, rfl⟩
      have Hst2 : Hid (rdS (j + 1) = ⟨s', u', ws'⟩) := by show _ = _; rw [hst, ← hs', ← hu', ← hws']; rfl
      rw [hx, hs', hu', hws'] at Hc
      rw [hx, hs'] at Hy
      have jlt : (j : Int) < 4 := by omega
      clear herr hst hlk hx hs' hu' hws' ht hll
      go_wp2_with fail
      refine (unhide Hc).mono ?_
      rintro e w6 ⟨rfl, k1, k2⟩
      have K1 := hide k1
      have K2 := hide k2
      have HA6 := hide ((unhide HA).frT k2 (by decide))
      have Hyy := hide (unhide Hy w6 ((unhide HP).rec'.frP k2) (unhide Hlk w6 k2))
      have e0 : w6.cell? ⟨gL + 1, j * 4, none⟩ = some (.int .i64 kd) := by rw [(unhide HA6).cell, ← (unhide HA).cell]; exact d0
      have e1 : w6.cell? ⟨gL + 1, j * 4 + 1, none⟩ = some (.int .i64 a) := by rw [(unhide HA6).cell, ← (unhide HA).cell]; exact d1
      have e2 : w6.cell? ⟨gL + 1, j * 4 + 2, none⟩ = some (.int .i64 b) := by rw [(unhide HA6).cell, ← (unhide HA).cell]; exact d2
      have e3 : w6.cell? ⟨gL + 1, j * 4 + 3, none⟩ = some (.slice ao ls.length cap) := by rw [(unhide HA6).cell, ← (unhide HA).cell]; exact d3
      clear k1 k2 d0 d1 d2 d3 Hc Hy
      go_wp2_with fail
      refine (unhide Hyy).mono ?_
      rintro e w7 ⟨rfl, j1, j2⟩
      have HP7 : Hid (KP w7 w.heap.size q p ⟨s', u', ws'⟩) := ⟨j1, (unhide K1).frK j2⟩
      have Hb6 : Hid (Below w.heap.size w w6) := (unhide Hb).trans ((unhide K2).below hsz)
      have hsz6 := (unhide Hb6).size
      have Hb7 : Hid (Below w.heap.size w w7) := (unhide Hb6).trans (j2.below hsz6)
      have HL7 := hide (((unhide HL).frT (unhide K2) (by decide)).frT j2 (by decide))
      have HA7 := hide ((unhide HA6).frT j2 (by decide))
      clear j1 j2 Hyy e0 e1 e2 e3 K1 K2
      go_wp2_with fail
      refine (tells_any w.heap.size w.heap.size q p s' w7 (unhide HP7).rec' (unhide HP7).led.led ((unhide Ht).below (unhide Hb7))).mono ?_
      rintro e w8 ⟨rfl, hb8⟩
      have HP8 : Hid (KP w8 w.heap.size q p (rdS (j + 1))) := by show KP _ _ _ _ _; rw [unhide Hst2]; exact (unhide HP7).kept hb8
      have HL8 := hide ((unhide HL7).kept hb8)
      have HA8 := hide ((unhide HA7).kept hb8)
      have Hb8 := hide ((unhide Hb7).then hb8)
      clear hb8
      go_wp2_with fail
      go_roundg (4 - (j + 1))
      case measure => omega
      case rel => exact ⟨j + 1, by omega, rfl, by go_num, rfl, unhide HP8, unhide HL8, unhide HA8, unhide Hb8⟩
    · obtain rfl : j = 4 := by omega
      have HPF : Hid (KP wr w.heap.size q p rdy) := unhide HP
      go_wp2_with fail
      go_ret3
      exact ⟨q, p, rfl, unhide HPF, unhide Hb⟩

/-- Steps that came in, below B. -/
structure KOk (w : World) (B : Nat) (x : KAct) : Prop where
  at' : LinesAt w (.slice x.ao x.ls.length x.cap) x.ls
  lo : x.ls = [] ∨ ∀ k, (Value.slice x.ao x.ls.length x.cap).ownBlock = some k → k < B
  few : x.ls.length ≤ 8796093022000
structure KActsAt (w : World) (B : Nat) (v : Value) (xs : List KAct) : Prop where
  form : ∃ ao cap, v = .slice ao xs.length cap ∧ (xs = [] ∨ ∃ b off, ao = some ⟨b, off, none⟩ ∧ b < B ∧ ∀ (i : Nat) (x : KAct), xs[i]? = some x →
    w.cell? ⟨b, off + i * 4, none⟩ = some (.int .i64 x.kd) ∧ w.cell? ⟨b, off + i * 4 + 1, none⟩ = some (.int .i64 x.a) ∧ w.cell? ⟨b, off + i * 4 + 2, none⟩ = some (.int .i64 x.b) ∧
    w.cell? ⟨b, off + i * 4 + 3, none⟩ = some (.slice x.ao x.ls.length x.cap))
  oks : ∀ x ∈ xs, KOk w B x
theorem LinesAt.belowK {w w' : World} {B : Nat} {v : Value} {ls : List Ln} (h : LinesAt w v ls) (hb : Below B w w') (hg : ls = [] ∨ ∀ k, v.ownBlock = some k → k < B) : LinesAt w' v ls := by
  obtain ⟨ao, cap, rfl, hr⟩ := h
  refine ⟨ao, cap, rfl, ?_⟩
  rcases hg with hg | hg
  · exact .inl hg
  rcases hr with hr | ⟨b, off, rfl, hlt, hc⟩
  · exact .inl hr
  · refine .inr ⟨b, off, rfl, Nat.lt_of_lt_of_le hlt hb.size, fun i l hl => ?_⟩
    rw [hb.cell (p := ⟨b, off + i * 2, none⟩) (hg b rfl), hb.cell (p := ⟨b, off + i * 2 + 1, none⟩) (hg b rfl)]
    exact hc i l hl
theorem KActsAt.below {w w' : World} {B : Nat} {v : Value} {xs : List KAct} (h : KActsAt w B v xs) (hb : Below B w w') : KActsAt w' B v xs := by
  obtain ⟨⟨ao, cap, rfl, hr⟩, ho⟩ := h
  refine ⟨⟨ao, cap, rfl, ?_⟩, fun x hx => ⟨(ho x hx).at'.belowK hb (ho x hx).lo, (ho x hx).lo, (ho x hx).few⟩⟩
  rcases hr with hr | ⟨b, off, rfl, hlt, hc⟩
  · exact .inl hr
  · refine .inr ⟨b, off, rfl, hlt, fun i x hx => ?_⟩
    have h1 : ∀ j, w'.cell? ⟨b, j, none⟩ = w.cell? ⟨b, j, none⟩ := fun j => hb.cell (p := ⟨b, j, none⟩) hlt
    rw [h1, h1, h1, h1]
    exact hc i x hx

set_option maxRecDepth 100000 in
set_option maxHeartbeats 4000000 in
theorem kplayed_any (v : Value) (xs : List KAct) (w : World) (h : KActsAt w w.heap.size v xs) (hlen : xs.length ≤ 9223372036854775800) (ht : Tab w) :
    Calls Tryz.prog 25 #[v] w fun e w' => ∃ q p, e = .returned (.tuple #[.pointer (some ⟨p, 0, none⟩), .pointer (some ⟨q, 0, none⟩), .bool true]) ∧ KP w' w.heap.size q p (krun rdy xs) ∧ Below w.heap.size w w' := by
  obtain ⟨ao, cap, rfl⟩ : ∃ ao cap, v = .slice ao xs.length cap := by obtain ⟨⟨ao, cap, rfl, _⟩, _⟩ := h; exact ⟨ao, cap, rfl⟩
  have H := hide h
  have Ht := hide ht
  clear h ht
  go_enter Tryz.func25, Tryz.ntmps25
  go_wp2_with fail
  refine (ready_any _ (unhide Ht)).mono ?_
  rintro e w1 ⟨q, p, rfl, h1, hb1⟩
  have H1 := hide h1
  have Hb1 := hide hb1
  clear h1 hb1
  go_wp2_with fail
  go_loopg [7, 8] xs.length (fun m vo i wr => ∃ j : Nat, j ≤ xs.length ∧ m = xs.length - j ∧ i = .int .i64 j ∧ vo = .bool true ∧ Hid (KP wr w.heap.size q p (krun rdy (xs.take j))) ∧ Hid (Below w.heap.size w wr))
  case atStart => exact ⟨0, by omega, rfl, rfl, rfl, unhide H1, unhide Hb1⟩
  case round =>
    obtain ⟨j, hj, rfl, rfl, rfl, HP, Hb⟩ := hrel
    by_cases hlt : j < xs.length
    · obtain ⟨x, hx⟩ : ∃ x, xs[j]? = some x := ⟨xs[j], List.getElem?_eq_getElem hlt⟩
      have hat := (unhide H).below (unhide Hb)
      have Hst := hide (krun_step (t := rdy) hx)
      have hok := hat.oks x (List.mem_of_getElem? hx)
      obtain ⟨⟨ao', cap', e1, hr⟩, _⟩ := hat
      simp only [Value.slice.injEq, true_and] at e1
      obtain ⟨rfl, rfl⟩ := e1
      have hr2 := hr.resolve_left (by rintro rfl; simp at hx)
      obtain ⟨b, off, rfl, hbl, hc⟩ := hr2
      obtain ⟨d0, d1, d2, d3⟩ := hc j x hx
      have hjj : (j : Int) < (xs.length : Int) := by omega
      have hsz := (unhide Hb).size
      obtain ⟨t, ht⟩ : ∃ t, krun rdy (xs.take j) = t := ⟨_, rfl⟩
      rw [ht] at HP Hst
      obtain ⟨kd, xa, xb, xao, xcap, ls⟩ := x
      simp only at d0 d1 d2 d3 hok
      have Hdo := hide (kdo_any w.heap.size q p t.u t.ws t.s kd xa xb xao xcap ls wr (unhide HP).rec' (unhide HP).led (fun w' hf => hok.at'.belowK (hf.below hsz) hok.lo) hok.few (fun w' hf => (unhide Ht).below ((unhide Hb).trans (hf.below hsz))))
      clear hr hc hx hok ht
      go_wp2_with fail
      refine (unhide Hdo).mono ?_
      rintro e w2 ⟨rfl, h1, h2, h3⟩
      have HP2 : Hid (KP w2 w.heap.size q p (krun rdy (xs.take (j + 1)))) := by show KP _ _ _ _ _; rw [unhide Hst]; exact ⟨h1, h2⟩
      have Hb2 : Hid (Below w.heap.size w w2) := (unhide Hb).trans (h3.below hsz)
      clear h1 h2 h3 Hdo
      go_wp2_with fail
      go_roundg (xs.length - (j + 1))
      case measure => omega
      case rel => exact ⟨j + 1, by omega, rfl, by go_num, rfl, unhide HP2, unhide Hb2⟩
    · obtain rfl : j = xs.length := by omega
      have HP2 : Hid (KP wr w.heap.size q p (krun rdy xs)) := by have := unhide HP; rw [List.take_length] at this; exact this
      go_wp2_with fail
      go_ret3
      exact ⟨q, p, rfl, unhide HP2, unhide Hb⟩

end Go.Proofs.YtdchbenfccofpaaGreatDoor
namespace Go.Proofs.YtdchbenfccofpaaGreatDoor
open Go.RowKit Db Go.ChangeShapes Go.WideShapes Go.ChangeAt Go.WideMaps Go.WideElems Go.Deep

theorem cInt : Tryz.prog.cellsOf 3 = 1 := by kernel_rfl
theorem cStr : Tryz.prog.cellsOf 9 = 1 := by kernel_rfl
theorem cLns : Tryz.prog.cellsOf 31 = 1 := by kernel_rfl
theorem cLine : Tryz.prog.cellsOf 89 = 2 := by kernel_rfl
theorem bLine : Tryz.prog.bytesOf 89 = 16 := by kernel_rfl
theorem reach_eq : reachBytes = 140737488351232 := rfl
theorem blk_lt {w : World} {a : Addr} {v : Value} (h : w.cell? a = some v) : a.block < w.heap.size := World.block_lt_of_cell? w a h
def intV : Value → Int
  | .int _ n => n
  | _ => 0

section
variable {H : Type} {enc : TypeId × Value → H} {W : World} {fuel : Nat} {x : DataW H × List MemPlace}
theorem open_lines {v : Value} (h : DataW.trod enc Tryz.prog W 0 (fun _ => true) true fuel 31 [v] = some x) :
    ∃ ao cap ls, v = .slice ao ls.length cap ∧ LinesAt W v ls ∧ (ls = [] ∨ ∀ k, v.ownBlock = some k → k < W.heap.size) ∧ (ls = [] ∨ ∃ el sp, x.1 = .slice el sp ∧ el.length = ls.length) := by
  rcases open_slice_pairs Tryz.underlying31 Tryz.underlying89 cLine rfl rfl cInt cInt h with ⟨hc, hx⟩ | ⟨a, len, cap, m, n, V0, V1, D0, D1, P0, P1, hc, _, hl, hm, hmm, hx, hcell⟩
  · simp only [List.cons.injEq, and_true] at hc
    subst hc
    exact ⟨none, 0, [], rfl, ⟨none, 0, rfl, .inl rfl⟩, .inl rfl, .inl rfl⟩
  · simp only [List.cons.injEq, and_true] at hc
    subst hc
    simp only [if_true] at hmm
    by_cases h0 : len = 0
    · subst h0
      exact ⟨some a, cap, [], rfl, ⟨some a, cap, rfl, .inl rfl⟩, .inl rfl, .inl rfl⟩
    · obtain ⟨b, off, spot⟩ := a
      have hspot : spot = none := by simpa [Addr.add] using World.cell?_spot (hcell 0 (by omega)).1
      subst hspot
      have hV : ∀ i, i < m → V0 i = .int .i64 (intV (V0 i)) ∧ V1 i = .int .i64 (intV (V1 i)) := by
        intro i hi
        obtain ⟨_, _, t0, t1⟩ := hcell i hi
        obtain ⟨k0, e0, _⟩ := DataW.trod_int Tryz.underlying3 t0
        obtain ⟨k1, e1, _⟩ := DataW.trod_int Tryz.underlying3 t1
        simp only [List.cons.injEq, and_true] at e0 e1
        rw [e0, e1]
        exact ⟨rfl, rfl⟩
      have hbl : b < W.heap.size := by
        have := blk_lt (hcell 0 (by omega)).1
        simpa [Addr.add] using this
      refine ⟨some ⟨b, off, none⟩, cap, (List.range len).map fun i => (intV (V0 i), intV (V1 i)), by simp, ⟨some ⟨b, off, none⟩, cap, by simp, .inr ⟨b, off, rfl, hbl, fun i l hl => ?_⟩⟩, .inr ?_, .inr ⟨_, _, by rw [hx], by simp⟩⟩
      · rw [List.getElem?_map] at hl
        have hi : i < len := by
          rcases Nat.lt_or_ge i len with hi | hi
          · exact hi
          · rw [List.getElem?_eq_none (by simpa using hi)] at hl; simp at hl
        rw [List.getElem?_range hi] at hl
        simp only [Option.map_some, Option.some.injEq] at hl
        subst hl
        have hc := hcell i (by omega)
        rw [Addr.add_lit, Addr.add_lit] at hc
        have hv := hV i (by omega)
        simp only
        rw [← hv.1, ← hv.2]
        exact ⟨hc.1, by rw [← Nat.add_assoc] at hc; exact hc.2.1⟩
      · intro k hk
        simp only [Value.ownBlock, Option.some.injEq] at hk
        omega

theorem weightsAll_mem {P : Program} {e : TypeId} : ∀ {l : List (DataW H)} {d : DataW H}, d ∈ l → ∀ n ∈ d.weights P e, n ∈ DataW.weightsAll P e l
  | d' :: r, d, hd, n, hn => by
    simp only [DataW.weightsAll, List.mem_append]
    rcases List.mem_cons.1 hd with rfl | h
    · exact Or.inl hn
    · exact Or.inr (weightsAll_mem h n hn)
end
end Go.Proofs.YtdchbenfccofpaaGreatDoor
namespace Go.Proofs.YtdchbenfccofpaaGreatDoor
open Go.RowKit Db Go.ChangeShapes Go.WideShapes Go.ChangeAt Go.WideMaps Go.WideElems Go.Deep

theorem cKAct : Tryz.prog.cellsOf 76 = 4 := by kernel_rfl
theorem bKAct : Tryz.prog.bytesOf 76 = 48 := by kernel_rfl

section
variable {H : Type} {enc : TypeId × Value → H} {W : World} {fuel : Nat} {x : DataW H × List MemPlace}
instance : Inhabited KAct := ⟨⟨0, 0, 0, none, 0, []⟩⟩
set_option maxRecDepth 100000 in
/-- One step, from its six cells. -/
theorem kopen_act {cs : List Value} (h : DataW.trod enc Tryz.prog W 0 (fun _ => true) true fuel 76 cs = some x) (hcs : cs.length = 4) (hsz : ∀ n ∈ x.1.weights Tryz.prog 76, n ≤ reachBytes) :
    ∃ y : KAct, cs = [.int .i64 y.kd, .int .i64 y.a, .int .i64 y.b, .slice y.ao y.ls.length y.cap] ∧ KOk W W.heap.size y := by
  obtain ⟨xs, n, rfl, rfl, _, hxl, hf⟩ := DataW.trod_struct Tryz.underlying76 h
  match cs, hcs, xs, hxl with
  | [v0, v1, v2, v3], _, [y0, y1, y2, y3], _ =>
    have g0 := hf 0 _ rfl
    have g1 := hf 1 _ rfl
    have g2 := hf 2 _ rfl
    have g3 := hf 3 _ rfl
    simp [cInt, cLns] at g0 g1 g2 g3
    obtain ⟨k0, e0, _⟩ := DataW.trod_int Tryz.underlying3 g0
    obtain ⟨k1, e1, _⟩ := DataW.trod_int Tryz.underlying3 g1
    obtain ⟨k2, e2, _⟩ := DataW.trod_int Tryz.underlying3 g2
    obtain ⟨ao, cap, ls, e3, hL, hlo, hw⟩ := open_lines g3
    simp only [List.cons.injEq, and_true] at e0 e1 e2
    subst e0 e1 e2 e3
    refine ⟨⟨k0, k1, k2, ao, cap, ls⟩, rfl, hL, hlo, ?_⟩
    rcases hw with rfl | ⟨el, sp, hx3, hel⟩
    · simp
    · have := hsz ((el.length + sp.length) * 16) (by
        simp only [List.map_cons, List.map_nil, DataW.weights, Tryz.underlying76]
        simp [DataW.weightsEach, hx3, DataW.weights, Tryz.underlying31, bLine])
      rw [reach_eq] at this
      simp only
      omega

/-- All steps. -/
theorem kopen_acts {v : Value} {ts : List TypeId} {ds : List (DataW H)} (h : DataW.trod enc Tryz.prog W 0 (fun _ => true) true fuel 50 [v] = some x) (hsz : (DataW.weightsEach Tryz.prog ts ds).all (· ≤ reachBytes) = true) {j : Nat} (hj : ts[j]? = some 50) (hd : ds[j]? = some x.1) :
    ∃ ys : List KAct, KActsAt W W.heap.size v ys ∧ ys.length ≤ 9223372036854775800 := by
  rcases open_slice Tryz.underlying50 h with ⟨hc, hx⟩ | ⟨a, len, cap, m, n, D, Pl, hc, _, hl, hm, hmm, hx, hel⟩
  · simp only [List.cons.injEq, and_true] at hc
    subst hc
    exact ⟨[], ⟨⟨none, 0, rfl, .inl rfl⟩, by simp⟩, by simp⟩
  · simp only [List.cons.injEq, and_true] at hc
    subst hc
    simp only [if_true] at hmm
    subst hx
    have hbig := sized_slice hsz hj hd Tryz.underlying50
    rw [bKAct, reach_eq] at hbig
    simp only [List.length_map, List.length_range] at hbig
    by_cases h0 : len = 0
    · subst h0
      exact ⟨[], ⟨⟨some a, cap, rfl, .inl rfl⟩, by simp⟩, by simp⟩
    · obtain ⟨b, off, spot⟩ := a
      have each : ∀ i, i < len → ∃ y : KAct, (∀ (f : Nat) (u : Value), [Value.int .i64 y.kd, .int .i64 y.a, .int .i64 y.b, .slice y.ao y.ls.length y.cap][f]? = some u → W.cell? ((⟨b, off, spot⟩ : Addr).add (i * 4 + f)) = some u) ∧ KOk W W.heap.size y := by
        intro i hi
        obtain ⟨cs', h1, h2⟩ := hel i (by omega)
        rw [cKAct] at h1
        obtain ⟨_, hlen, hcell⟩ := World.cells?_some h1
        obtain ⟨y, rfl, hy⟩ := kopen_act h2 hlen (fun k hk => by
          refine of_decide_eq_true (List.all_eq_true.1 hsz _ (DataW.weights_mem_each hj hd _ ?_))
          simp only [DataW.weights, Tryz.underlying50, List.mem_cons, List.mem_append]
          exact Or.inr (Or.inl (weightsAll_mem (List.mem_map.2 ⟨i, List.mem_range.2 hi, rfl⟩) _ hk)))
        refine ⟨y, fun f u hu => ?_, hy⟩
        have hf : f < 4 := by have := (List.getElem?_eq_some_iff.1 hu).1; simpa using this
        have he := hcell f hf
        rw [hu, add_add] at he
        exact he
      have hspot : spot = none := by
        obtain ⟨y, hy, _⟩ := each 0 (by omega)
        have := World.cell?_spot (hy 0 _ rfl)
        simpa [Addr.add] using this
      subst hspot
      have hbl : b < W.heap.size := by
        obtain ⟨y, hy, _⟩ := each 0 (by omega)
        have := blk_lt (hy 0 _ rfl)
        simpa [Addr.add] using this
      obtain ⟨Y, hY⟩ := choose_lt each
      refine ⟨(List.range len).map Y, ⟨⟨some ⟨b, off, none⟩, cap, by simp, .inr ⟨b, off, rfl, hbl, fun i y hy => ?_⟩⟩, fun y hy => ?_⟩, by simp; omega⟩
      · rw [List.getElem?_map] at hy
        have hi : i < len := by
          rcases Nat.lt_or_ge i len with hi | hi
          · exact hi
          · rw [List.getElem?_eq_none (by simpa using hi)] at hy; simp at hy
        rw [List.getElem?_range hi] at hy
        simp only [Option.map_some, Option.some.injEq] at hy
        subst hy
        have hc := (hY i hi).1
        refine ⟨?_, ?_, ?_, ?_⟩
        · have := hc 0 _ rfl; rw [Addr.add_lit] at this; simpa [Nat.add_assoc] using this
        · have := hc 1 _ rfl; rw [Addr.add_lit] at this; simpa [Nat.add_assoc] using this
        · have := hc 2 _ rfl; rw [Addr.add_lit] at this; simpa [Nat.add_assoc] using this
        · have := hc 3 _ rfl; rw [Addr.add_lit] at this; simpa [Nat.add_assoc] using this
      · obtain ⟨i, hi, rfl⟩ := List.mem_map.1 hy
        exact (hY i (List.mem_range.1 hi)).2
end
end Go.Proofs.YtdchbenfccofpaaGreatDoor
namespace Db

def hd : List UInt8 → Int
  | [] => 0
  | c :: _ => c.toNat
def Blanks (x : List UInt8) : Prop := ∀ c ∈ x, c.toNat = 32
theorem bare_blanks {x : List UInt8} (h : Blanks x) : bare x = [] := by
  unfold bare; rw [List.filter_eq_nil_iff]; intro c hc; simp [h c hc]

/-- Alike but for the digits, where these do not count. -/
def simD : Option (Int × Int × Int) → Option (Int × Int × Int) → Prop
  | none, none => True
  | some p, some q => p.1 = q.1 ∧ p.2.2 = q.2.2 ∧ (p.2.1 = q.2.1 ∨ p.1 = 6 ∨ p.1 = 8 ∨ p.1 = 9 ∨ p.1 = 10 ∨ p.1 = 11)
  | _, _ => False

/-- How many digits have been read does not count outside of days and numbers. -/
theorem plc_d (l : List UInt8) : ∀ (a d d' o i : Int), (a = 6 ∨ a = 8 ∨ a = 9 ∨ a = 10 ∨ a = 11) → plc a d o i l = plc a d' o i l := by
  induction l with
  | nil => intro a d d' o i _; rfl
  | cons c r ih =>
    intro a d d' o i ha
    have key : ∀ x y : Option (Int × Int × Int), simD x y →
        (match x with | none => i | some (a', d', o') => plc a' d' o' (i + 1) r) = (match y with | none => i | some (a', d', o') => plc a' d' o' (i + 1) r) := by
      intro x y h
      match x, y, h with
      | none, none, _ => rfl
      | some (a1, e1, o1), some (a2, e2, o2), ⟨h1, h2, h3⟩ =>
        simp only at h1 h2 h3 ⊢
        subst h1 h2
        rcases h3 with h3 | h3
        · rw [h3]
        · exact ih _ _ _ _ _ h3
    show (match stepS a d o c.toNat with | none => i | some (a', d', o') => plc a' d' o' (i + 1) r) = (match stepS a d' o c.toNat with | none => i | some (a', d', o') => plc a' d' o' (i + 1) r)
    apply key
    rcases ha with rfl | rfl | rfl | rfl | rfl
    · unfold stepS factS
      simp only [show ¬ (6 : Int) < 6 by omega, if_false]
      cases h1 : ((c.toNat : Int) == 32 || (c.toNat : Int) == 45) <;> cases h2 : ((c.toNat : Int) == 40) <;> cases h3 : digB c.toNat <;> cases h4 : selB c.toNat <;> cases h5 : oldB c.toNat <;> simp [simD]
    · unfold stepS factS
      simp only [show ¬ (8 : Int) < 6 by omega, if_false]
      cases h3 : digB c.toNat <;> simp [simD]
    · unfold stepS factS
      simp only [show ¬ (9 : Int) < 6 by omega, if_false]
      cases h3 : digB c.toNat <;> simp [simD]
    · unfold stepS onwS
      simp only [show ¬ (10 : Int) < 6 by omega, if_false]
      cases h1 : ((c.toNat : Int) == 32) <;> cases h3 : digB c.toNat <;> cases h4 : opB c.toNat <;> cases h5 : ((c.toNat : Int) == 59 && o == 0) <;> cases h7 : ((c.toNat : Int) == 41 && decide (0 < o)) <;> simp [simD]
    · unfold stepS onwS
      simp only [show ¬ (11 : Int) < 6 by omega, if_false]
      cases h1 : ((c.toNat : Int) == 32) <;> cases h4 : opB c.toNat <;> cases h5 : ((c.toNat : Int) == 59 && o == 0) <;> cases h7 : ((c.toNat : Int) == 41 && decide (0 < o)) <;> simp [simD]

theorem stepS_lt {a d o c : Int} (h : a < 6) : stepS a d o c = daysS a d o c := by unfold stepS; rw [if_pos h]
theorem stepS6 (d o c : Int) : stepS 6 d o c = factS 6 d o c := rfl
theorem stepS8 (d o c : Int) : stepS 8 d o c = factS 8 d o c := rfl
theorem stepS9 (d o c : Int) : stepS 9 d o c = factS 9 d o c := rfl
theorem stepS7 (d o c : Int) : stepS 7 d o c = onwS 7 d o c := rfl
theorem stepS10 (d o c : Int) : stepS 10 d o c = onwS 10 d o c := rfl
theorem stepS11 (d o c : Int) : stepS 11 d o c = onwS 11 d o c := rfl

/-- Blanks change nothing where the spot is between two things. -/
theorem plc_skip (a : Int) (ha : a = 0 ∨ a = 2 ∨ a = 3 ∨ a = 5 ∨ a = 6 ∨ a = 11) (x : List UInt8) (hx : Blanks x) : ∀ d o i r, plc a d o i (x ++ r) = plc a d o (i + x.length) r := by
  induction x with
  | nil => intro d o i r; simp
  | cons c t ih =>
    intro d o i r
    have hc : (c.toNat : Int) = 32 := by have := hx c (by simp); omega
    have hst : stepS a d o c.toNat = some (a, d, o) := by
      rw [hc]
      rcases ha with rfl | rfl | rfl | rfl | rfl | rfl <;> rfl
    rw [List.cons_append, plc_step hst, ih (fun y hy => hx y (by simp [hy]))]
    congr 1
    simp; omega
/-- Behind a complete operand a blank ends it. -/
theorem plc_skip' (a : Int) (ha : a = 7 ∨ a = 10 ∨ a = 11) (x : List UInt8) (hx : Blanks x) (hn : x ≠ []) (d o i : Int) (r : List UInt8) : plc a d o i (x ++ r) = plc 11 0 o (i + x.length) r := by
  match x, hn with
  | c :: t, _ =>
    have hc : (c.toNat : Int) = 32 := by have := hx c (by simp); omega
    have hst : stepS a d o c.toNat = some (11, d, o) := by
      rw [hc]
      rcases ha with rfl | rfl | rfl
      · rw [stepS7]; unfold onwS; simp [digB]
      · rw [stepS10]; unfold onwS; simp
      · rw [stepS11]; unfold onwS; simp
    rw [List.cons_append, plc_step hst, plc_d _ 11 d 0 _ _ (by simp), plc_skip 11 (by simp) t (fun y hy => hx y (by simp [hy]))]
    congr 1
    simp; omega
/-- A number that cannot go on is an operand that is complete. -/
theorem plc_num_end (m o i : Int) (l : List UInt8) (h : 18 ≤ m ∨ digB (hd l) = false) : plc 7 m o i l = plc 11 0 o i l := by
  cases l with
  | nil => rfl
  | cons c r =>
    rw [plc_d (c :: r) 11 0 m _ _ (by simp)]
    have : stepS 7 m o c.toNat = stepS 11 m o c.toNat := by
      rw [stepS7, stepS11]
      unfold onwS
      rcases h with h | h
      · simp [show ¬ m < 18 by omega]
      · simp only [hd] at h
        simp [h]
    simp only [plc, this]
theorem plc_acc_end (d o i : Int) (l : List UInt8) (h : digB (hd l) = false) : plc 10 d o i l = plc 11 0 o i l := by
  cases l with
  | nil => rfl
  | cons c r =>
    rw [plc_d (c :: r) 11 0 d _ _ (by simp)]
    have : stepS 10 d o c.toNat = stepS 11 d o c.toNat := by
      rw [stepS10, stepS11]
      unfold onwS
      simp only [hd] at h
      simp [h]
    simp only [plc, this]
/-- Digits of a number. -/
theorem plc_num (ds : List UInt8) (hd : ∀ c ∈ ds, digB c.toNat = true) : ∀ (m o i : Int) (r : List UInt8), 0 ≤ m → m + ds.length ≤ 18 → plc 7 m o i (ds ++ r) = plc 7 (m + ds.length) o (i + ds.length) r := by
  induction ds with
  | nil => intro m o i r _ _; simp
  | cons c t ih =>
    intro m o i r hm hl
    simp only [List.length_cons] at hl
    have hst : stepS 7 m o c.toNat = some (7, m + 1, o) := by
      rw [stepS7]; unfold onwS; simp [hd c (by simp), show m < 18 by omega]
    rw [List.cons_append, plc_step hst, ih (fun y hy => hd y (by simp [hy])) _ _ _ _ (by omega) (by omega)]
    simp only [List.length_cons]
    congr 1 <;> omega
theorem dig_c {c : Int} (h : digB c = true) : ¬ c = 32 ∧ ¬ c = 45 ∧ ¬ c = 40 := by simp [digB] at h; omega
theorem plc_number (ds : List UInt8) (hdg : ∀ c ∈ ds, digB c.toNat = true) (h1 : 1 ≤ ds.length) (h18 : ds.length ≤ 18) (r : List UInt8) (he : ds.length = 18 ∨ digB (hd r) = false) (d o i : Int) : plc 6 d o i (ds ++ r) = plc 11 0 o (i + ds.length) r := by
  match ds, h1 with
  | c :: t, _ =>
    have hc := hdg c (by simp)
    have hn := dig_c hc
    have hst : stepS 6 d o c.toNat = some (7, 1, o) := by
      rw [stepS6]; unfold factS; simp [hc, hn.1, hn.2.1, hn.2.2]
    simp only [List.length_cons] at h18 he ⊢
    rw [List.cons_append, plc_step hst, plc_num t (fun y hy => hdg y (by simp [hy])) _ _ _ _ (by omega) (by omega), plc_num_end _ _ _ _ (by rcases he with h | h; left; omega; right; exact h)]
    congr 1
    omega

end Db
namespace Db

theorem sel_c {c : Int} (h : selB c = true) : ¬ c = 32 ∧ ¬ c = 45 ∧ ¬ c = 40 ∧ digB c = false := by
  simp [selB] at h; rcases h with (rfl | rfl) | rfl <;> simp [digB]
theorem old_c {c : Int} (h : oldB c = true) : ¬ c = 32 ∧ ¬ c = 45 ∧ ¬ c = 40 ∧ digB c = false ∧ selB c = false := by
  simp [oldB] at h; rcases h with rfl | rfl <;> simp [digB, selB]
theorem op_c {c : Int} (h : opB c = true) : ¬ c = 32 ∧ ¬ c = 40 ∧ ¬ c = 41 ∧ ¬ c = 59 ∧ digB c = false ∧ selB c = false ∧ oldB c = false := by
  simp [opB] at h; rcases h with ((rfl | rfl) | rfl) | rfl <;> simp [digB, selB, oldB]
theorem plc_sel1 {c : UInt8} (h : selB c.toNat = true) (d o i : Int) (r : List UInt8) : plc 6 d o i (c :: r) = plc 8 d o (i + 1) r := by
  have hn := sel_c h
  exact plc_step (by rw [stepS6]; unfold factS; simp [h, hn.1, hn.2.1, hn.2.2.1, hn.2.2.2])
theorem plc_old1 {c : UInt8} (h : oldB c.toNat = true) (d o i : Int) (r : List UInt8) : plc 6 d o i (c :: r) = plc 9 d o (i + 1) r := by
  have hn := old_c h
  exact plc_step (by rw [stepS6]; unfold factS; simp [h, hn.1, hn.2.1, hn.2.2.1, hn.2.2.2.1, hn.2.2.2.2])
theorem plc_sel (ds : List UInt8) (hdg : ∀ c ∈ ds, digB c.toNat = true) (h1 : 1 ≤ ds.length) (h2 : ds.length ≤ 2) (r : List UInt8) (he : ds.length = 2 ∨ digB (hd r) = false) (d o i : Int) : plc 8 d o i (ds ++ r) = plc 11 0 o (i + ds.length) r := by
  have s8 : ∀ x : UInt8, digB x.toNat = true → ∀ d, stepS 8 d o x.toNat = some (10, d, o) := fun x hx d => by rw [stepS8]; unfold factS; simp [hx]
  have s10 : ∀ x : UInt8, digB x.toNat = true → ∀ d, stepS 10 d o x.toNat = some (11, d, o) := fun x hx d => by rw [stepS10]; unfold onwS; simp [hx]
  match ds, h1, h2 with
  | [x], _, _ =>
    rw [List.cons_append, plc_step (s8 x (hdg x (by simp)) d)]
    simp only [List.length_cons, List.length_nil, List.nil_append] at he ⊢
    rw [plc_acc_end _ _ _ _ (by rcases he with he | he; omega; exact he)]
    rfl
  | [x, y], _, _ =>
    rw [List.cons_append, plc_step (s8 x (hdg x (by simp)) d), List.cons_append, plc_step (s10 y (hdg y (by simp)) d), plc_d _ 11 d 0 _ _ (by simp)]
    simp only [List.length_cons, List.length_nil, List.nil_append]
    congr 1
    omega
  | _ :: _ :: _ :: _, _, h2 => simp at h2
theorem plc_old (x : UInt8) (hx : digB x.toNat = true) (r : List UInt8) (d o i : Int) : plc 9 d o i (x :: r) = plc 11 0 o (i + 1) r := by
  rw [plc_step (show stepS 9 d o x.toNat = some (11, d, o) by rw [stepS9]; unfold factS; simp [hx]), plc_d _ 11 d 0 _ _ (by simp)]
theorem plc_fail8 (l : List UInt8) (h : digB (hd l) = false) (d o i : Int) : plc 8 d o i l = i := by
  cases l with
  | nil => rfl
  | cons c r => exact plc_stop (by rw [stepS8]; unfold factS; simp only [hd] at h; simp [h])
theorem plc_fail9 (l : List UInt8) (h : digB (hd l) = false) (d o i : Int) : plc 9 d o i l = i := by
  cases l with
  | nil => rfl
  | cons c r => exact plc_stop (by rw [stepS9]; unfold factS; simp only [hd] at h; simp [h])
theorem plc_fail6 (l : List UInt8) (h1 : ¬ hd l = 32) (h2 : ¬ hd l = 45) (h3 : ¬ hd l = 40) (h4 : digB (hd l) = false) (h5 : selB (hd l) = false) (h6 : oldB (hd l) = false) (d o i : Int) : plc 6 d o i l = i := by
  cases l with
  | nil => rfl
  | cons c r => exact plc_stop (by rw [stepS6]; unfold factS; simp only [hd] at *; simp [*])
theorem plc_neg {c : UInt8} (h : (c.toNat : Int) = 45) (d o i : Int) (r : List UInt8) : plc 6 d o i (c :: r) = plc 6 d o (i + 1) r :=
  plc_step (by rw [stepS6]; unfold factS; simp [h])
theorem plc_par {c : UInt8} (h : (c.toNat : Int) = 40) (d o i : Int) (r : List UInt8) : plc 6 d o i (c :: r) = plc 6 d (o + 1) (i + 1) r :=
  plc_step (by rw [stepS6]; unfold factS; simp [h])
theorem plc_op {c : UInt8} (h : opB c.toNat = true) (d o i : Int) (r : List UInt8) : plc 11 d o i (c :: r) = plc 6 d o (i + 1) r := by
  have hn := op_c h
  exact plc_step (by rw [stepS11]; unfold onwS; simp [h, hn.1])
theorem plc_shut {c : UInt8} (h : (c.toNat : Int) = 41) (d o i : Int) (ho : 0 ≤ o) (r : List UInt8) : plc 11 d (o + 1) i (c :: r) = plc 11 d o (i + 1) r := by
  have e : stepS 11 d (o + 1) c.toNat = some (11, d, o) := by
    rw [stepS11, h]; unfold onwS; simp [opB, show 0 < o + 1 by omega]
  exact plc_step e
theorem plc_row {c : UInt8} (h : (c.toNat : Int) = 59) (d i : Int) (r : List UInt8) : plc 11 d 0 i (c :: r) = plc 6 d 0 (i + 1) r :=
  plc_step (by rw [stepS11, h]; unfold onwS; simp [opB])
/-- Within brackets: nothing but ) or an operation goes on. -/
theorem plc_fail11 (l : List UInt8) (h1 : ¬ hd l = 32) (h2 : opB (hd l) = false) (h3 : ¬ hd l = 41) (d o i : Int) (ho : 0 ≤ o) : plc 11 d (o + 1) i l = i := by
  cases l with
  | nil => simp [plc]; omega
  | cons c r =>
    refine plc_stop ?_
    rw [stepS11]; unfold onwS; simp only [hd] at *
    simp [h1, h2, h3, show ¬ o + 1 = 0 by omega]
/-- Outside of them: nothing but ; or an operation goes on. -/
theorem plc_fail0 (l : List UInt8) (hn : l ≠ []) (h1 : ¬ hd l = 32) (h2 : opB (hd l) = false) (h3 : ¬ hd l = 59) (d i : Int) : plc 11 d 0 i l = i := by
  cases l with
  | nil => exact absurd rfl hn
  | cons c r =>
    refine plc_stop ?_
    rw [stepS11]; unfold onwS; simp only [hd] at *
    simp [h1, h2, h3]

end Db
namespace Db

/-- A sign behind which nothing is an operation between two operands. -/
def stt (p : Int) : Prop := digB p = false ∧ ¬ p = 41
def lst (e : List UInt8) : Int := match e.getLast? with | some c => c.toNat | none => -1
def upd (a b : Int) (e : List UInt8) (at_ i : Int) : Int := if fin e a b < 0 then at_ else i + fin e a b

structure ExpS (e : List UInt8) (ps : List Pt) : Prop where
  wf : ∃ n, Wf n e ps
  pos : 0 < e.length
  ends : digB (lst e) = true ∨ lst e = 41
  scan : ∀ (a b p k at_ i : Int) (r : List UInt8), 0 ≤ k → stt p → finGo a b p k at_ i (e ++ r) = finGo a b (lst e) k (if k = 0 then upd a b e at_ i else at_) (i + e.length) r
  chars : ∀ c ∈ e, ¬ c.toNat = 32 ∧ ¬ c.toNat = 44 ∧ ¬ c.toNat = 59 ∧ ¬ c.toNat = 124
  old : ∀ r, oldDig r → oldDig (e ++ r)
  rch : ∀ row r, rch row (e ++ r) = (nameB row ps || rch row r)
  sel : ∀ (q : Int → Bool) r, digB (hd r) = false → strg q (e ++ r) = (selq q ps || strg q r)
  num : ∀ p ∈ ps, 0 ≤ p.2

theorem Wf_mono {n : Nat} : ∀ {e : List UInt8} {ps : List Pt}, Wf n e ps → Wf (n + 1) e ps := by
  induction n with
  | zero => intro e ps h; exact absurd h (by simp [Wf])
  | succ n ih =>
    intro e ps h
    rcases h with h | ⟨h1, h2⟩ | ⟨h1, p, h2, h3⟩ | ⟨h1, p, q, h2, h3, h4⟩
    · exact .inl h
    · exact .inr (.inl ⟨h1, ih h2⟩)
    · exact .inr (.inr (.inl ⟨h1, p, ih h2, h3⟩))
    · exact .inr (.inr (.inr ⟨h1, p, q, ih h2, ih h3, h4⟩))
theorem Wf_add {n : Nat} (m : Nat) {e : List UInt8} {ps : List Pt} (h : Wf n e ps) : Wf (n + m) e ps := by
  induction m with
  | zero => exact h
  | succ m ih => exact Wf_mono ih
theorem Wf_le {n m : Nat} (hm : n ≤ m) {e : List UInt8} {ps : List Pt} (h : Wf n e ps) : Wf m e ps := by
  obtain ⟨k, rfl⟩ := Nat.le.dest hm
  exact Wf_add k h

theorem finGo_ge (a b : Int) (l : List UInt8) : ∀ p k at_ i : Int, 0 ≤ i → -1 ≤ at_ → -1 ≤ finGo a b p k at_ i l := by
  induction l with
  | nil => intro p k at_ i _ h; exact h
  | cons c r ih =>
    intro p k at_ i hi h
    exact ih _ _ _ _ (by omega) (by unfold hit; split <;> omega)
theorem fin_ge (l : List UInt8) (a b : Int) : -1 ≤ fin l a b := finGo_ge a b l _ _ _ _ (by omega) (by omega)
theorem stt_start : stt (-1) := ⟨by decide, by decide⟩
/-- The last operation of a whole text, by its scan. -/
theorem ExpS.fin_of {e : List UInt8} {ps : List Pt} (h : ExpS e ps) (a b p at_ i : Int) (hp : stt p) : finGo a b p 0 at_ i e = upd a b e at_ i := by
  have := h.scan a b p 0 at_ i [] (by omega) hp
  simpa [finGo] using this

theorem lst_append (x : List UInt8) (c : UInt8) (y : List UInt8) (hy : 0 < y.length) : lst (x ++ c :: y) = lst y := by
  unfold lst
  rw [List.getLast?_append, List.getLast?_cons]
  cases h : y.getLast? with
  | none => simp at h; subst h; simp at hy
  | some z => simp
theorem lst_cons (c : UInt8) (y : List UInt8) (hy : 0 < y.length) : lst (c :: y) = lst y := lst_append [] c y hy
theorem lst_snoc (x : List UInt8) (c : UInt8) : lst (x ++ [c]) = c.toNat := by simp [lst]

theorem fin_join {l r : List UInt8} {p q : List Pt} (hl : ExpS l p) (hr : ExpS r q) (o : UInt8) (ho : opB o.toNat = true) (a b : Int) :
    fin (l ++ o :: r) a b = if 0 ≤ fin r a b then (l.length : Int) + 1 + fin r a b else if ((o.toNat : Int) == a || (o.toNat : Int) == b) then (l.length : Int) else fin l a b := by
  have hc := op_c ho
  have hdep : dep 0 (o.toNat : Int) = 0 := by simp [dep, hc.2.1, hc.2.2.1]
  have hbin : binB (lst l) (o.toNat : Int) = true := by
    unfold binB; rw [ho]
    rcases hl.ends with h | h <;> simp [h]
  unfold fin
  rw [hl.scan a b (-1) 0 (-1) 0 (o :: r) (by omega) stt_start]
  simp only [if_true, finGo, hdep]
  rw [hr.fin_of a b _ _ _ ⟨hc.2.2.2.2.1, hc.2.2.1⟩]
  have g := fin_ge r a b
  have g2 := fin_ge l a b
  unfold upd hit
  rw [hbin]
  have e1 : fin l a b = finGo a b (-1) 0 (-1) 0 l := rfl
  have e2 : fin r a b = finGo a b (-1) 0 (-1) 0 r := rfl
  rw [← e1, ← e2]
  by_cases h1 : fin r a b < 0
  · rw [if_pos h1, if_neg (show ¬ 0 ≤ fin r a b by omega)]
    cases h2 : ((o.toNat : Int) == a || (o.toNat : Int) == b)
    · simp only [Bool.and_false, Bool.false_eq_true, if_false]
      split <;> omega
    · simp
  · rw [if_neg h1, if_pos (show 0 ≤ fin r a b by omega)]
    omega

/-- Two expressions with an operation between them: all but how they are cut. -/
theorem scan_join {l r : List UInt8} {p q : List Pt} (hl : ExpS l p) (hr : ExpS r q) (o : UInt8) (ho : opB o.toNat = true)
    (a b p0 k at_ i : Int) (rest : List UInt8) (hk : 0 ≤ k) (hp : stt p0) :
    finGo a b p0 k at_ i ((l ++ o :: r) ++ rest) = finGo a b (lst (l ++ o :: r)) k (if k = 0 then upd a b (l ++ o :: r) at_ i else at_) (i + (l ++ o :: r).length) rest := by
  have hc := op_c ho
  have hdep : dep k (o.toNat : Int) = k := by simp [dep, hc.2.1, hc.2.2.1]
  have hbin : binB (lst l) (o.toNat : Int) = true := by
    unfold binB; rw [ho]
    rcases hl.ends with h | h <;> simp [h]
  have hj := fin_join hl hr o ho a b
  have g := fin_ge r a b
  have g2 := fin_ge l a b
  rw [List.append_assoc, hl.scan a b p0 k at_ i _ hk hp, List.cons_append]
  simp only [finGo, hdep]
  rw [hr.scan a b _ k _ _ rest hk ⟨hc.2.2.2.2.1, hc.2.2.1⟩, lst_append l o r hr.pos]
  have hlen : i + (l.length : Int) + 1 + (r.length : Int) = i + ((l ++ o :: r).length : Int) := by simp; omega
  rw [hlen]
  congr 1
  by_cases h0 : k = 0
  · subst h0
    simp only [if_true]
    unfold hit
    rw [hbin]
    unfold upd
    rw [hj]
    by_cases h1 : fin r a b < 0
    · rw [if_pos h1, if_neg (show ¬ 0 ≤ fin r a b by omega)]
      cases h2 : ((o.toNat : Int) == a || (o.toNat : Int) == b)
      · simp
      · simp; omega
    · rw [if_neg h1, if_pos (show 0 ≤ fin r a b by omega), if_neg (by omega)]
      omega
  · have hk0 : (k == 0) = false := by simpa using h0
    simp [h0, hit, hk0]

end Db
namespace Db

def TrmS (e : List UInt8) (ps : List Pt) : Prop := ExpS e ps ∧ fin e 43 45 < 0
def FacS (e : List UInt8) (ps : List Pt) : Prop := ExpS e ps ∧ fin e 43 45 < 0 ∧ fin e 42 47 < 0
theorem FacS.trm {e : List UInt8} {ps : List Pt} (h : FacS e ps) : TrmS e ps := ⟨h.1, h.2.1⟩

theorem cut_join (l : List UInt8) (o : UInt8) (r : List UInt8) (hl : 0 < l.length) (h : cutAt (l ++ o :: r) = (l.length : Int)) : cut (l ++ o :: r) = ((o.toNat : Int), l, r) := by
  unfold cut
  rw [if_pos (by rw [h]; omega), h]
  simp only [Int.toNat_natCast]
  refine Prod.ext ?_ (Prod.ext ?_ ?_)
  · simp [List.getD]
  · simp
  · simp [List.drop_append]
theorem nameB_append (row : Int) (p q : List Pt) : nameB row (p ++ q) = (nameB row p || nameB row q) := by simp [nameB]
theorem nameB_op (row : Int) (o : Int) (h : oldB o = false) : nameB row [(o, 0)] = false := by simp [nameB, h]

theorem rch_cons_not {row : Int} {c : UInt8} (r : List UInt8) (h : oldB c.toNat = false) : rch row (c :: r) = rch row r := by
  simp [rch, h]
theorem oldDig_cons_not {c : UInt8} {r : List UInt8} (h : oldB c.toNat = false) (hr : oldDig r) : oldDig (c :: r) := ⟨fun hc => (by rw [h] at hc; cases hc), hr⟩

/-- An operation between two. -/
theorem join_shape {l r : List UInt8} {p q : List Pt} (hl : ExpS l p) (hr : ExpS r q) (o : UInt8) (ho : opB o.toNat = true) (hcut : cutAt (l ++ o :: r) = (l.length : Int)) :
    ExpS (l ++ o :: r) (p ++ q ++ [((o.toNat : Int), 0)]) := by
  have hc := op_c ho
  obtain ⟨n1, h1⟩ := hl.wf
  obtain ⟨n2, h2⟩ := hr.wf
  refine ⟨⟨n1 + n2 + 1, ?_⟩, ?_, ?_, ?_, ?_, ?_, ?_, ?_, ?_⟩
  · have e := cut_join l o r hl.pos hcut
    refine .inr (.inr (.inr ⟨by rw [e]; exact ho, p, q, ?_, ?_, by rw [e]⟩))
    · rw [e]; exact Wf_le (by omega) h1
    · rw [e]; exact Wf_le (by omega) h2
  · simp; omega
  · rw [lst_append l o r hr.pos]; exact hr.ends
  · intro a b p0 k at_ i rest hk hp
    exact scan_join hl hr o ho a b p0 k at_ i rest hk hp
  · intro c hcm
    rw [List.mem_append, List.mem_cons] at hcm
    rcases hcm with h | rfl | h
    · exact hl.chars c h
    · simp [opB] at ho; omega
    · exact hr.chars c h
  · intro rest hrest
    rw [List.append_assoc, List.cons_append]
    exact hl.old _ (oldDig_cons_not hc.2.2.2.2.2.2 (hr.old _ hrest))
  · intro row rest
    rw [List.append_assoc, List.cons_append, hl.rch, rch_cons_not _ hc.2.2.2.2.2.2, hr.rch, nameB_append, nameB_append, nameB_op _ _ hc.2.2.2.2.2.2]
    simp [Bool.or_assoc]
  · intro q rest hrest
    rw [List.append_assoc, List.cons_append, hl.sel _ _ (by simp only [hd]; exact hc.2.2.2.2.1), strg_cons_not _ hc.2.2.2.2.2.1, hr.sel _ _ hrest, selq_append, selq_append, selq_op _ _ hc.2.2.2.2.2.1]
    simp [Bool.or_assoc]
  · intro x hx
    simp at hx
    rcases hx with h | h | rfl
    · exact hl.num x h
    · exact hr.num x h
    · simp
theorem ExpS_add {l r : List UInt8} {p q : List Pt} (hl : ExpS l p) (hr : TrmS r q) (o : UInt8) (ho : (o.toNat : Int) = 43 ∨ (o.toNat : Int) = 45) : ExpS (l ++ o :: r) (p ++ q ++ [((o.toNat : Int), 0)]) := by
  have hop : opB o.toNat = true := by rcases ho with h | h <;> rw [h] <;> rfl
  refine join_shape hl hr.1 o hop ?_
  have hj := fin_join hl hr.1 o hop 43 45
  rw [if_neg (by have := hr.2; omega), if_pos (by rcases ho with h | h <;> rw [h] <;> rfl)] at hj
  unfold cutAt
  rw [hj, if_neg (by omega)]
theorem TrmS_mul {l r : List UInt8} {p q : List Pt} (hl : TrmS l p) (hr : FacS r q) (o : UInt8) (ho : (o.toNat : Int) = 42 ∨ (o.toNat : Int) = 47) : TrmS (l ++ o :: r) (p ++ q ++ [((o.toNat : Int), 0)]) := by
  have hop : opB o.toNat = true := by rcases ho with h | h <;> rw [h] <;> rfl
  have hj1 := fin_join hl.1 hr.1 o hop 43 45
  rw [if_neg (by have := hr.2.1; omega), if_neg (by rcases ho with h | h <;> rw [h] <;> decide)] at hj1
  have hj2 := fin_join hl.1 hr.1 o hop 42 47
  rw [if_neg (by have := hr.2.2; omega), if_pos (by rcases ho with h | h <;> rw [h] <;> rfl)] at hj2
  refine ⟨join_shape hl.1 hr.1 o hop ?_, by rw [hj1]; exact hl.2⟩
  unfold cutAt
  rw [hj1, hj2, if_pos hl.2]

/-- A - ahead. -/
theorem neg_fin {e : List UInt8} {ps : List Pt} (he : ExpS e ps) (c : UInt8) (hc : (c.toNat : Int) = 45) (a b p k at_ i : Int) (r : List UInt8) (hk : 0 ≤ k) (hp : stt p) :
    finGo a b p k at_ i (c :: e ++ r) = finGo a b (lst e) k (if k = 0 then upd a b e at_ (i + 1) else at_) (i + 1 + e.length) r := by
  have h1 : dep k (c.toNat : Int) = k := by rw [hc]; simp [dep]
  have h2 : hit a b p k at_ i (c.toNat : Int) = at_ := by
    unfold hit binB
    rw [hp.1]
    have : (p == 41) = false := by simpa using hp.2
    simp [this]
  rw [List.cons_append]
  simp only [finGo, h1, h2]
  rw [he.scan a b _ k at_ (i + 1) r hk (by rw [hc]; exact ⟨rfl, by decide⟩)]
theorem neg_fin0 {e : List UInt8} {ps : List Pt} (he : ExpS e ps) (c : UInt8) (hc : (c.toNat : Int) = 45) (a b : Int) : fin (c :: e) a b = if fin e a b < 0 then -1 else 1 + fin e a b := by
  have := neg_fin he c hc a b (-1) 0 (-1) 0 [] (by omega) stt_start
  have e2 : finGo a b (-1) 0 (-1) 0 (c :: e ++ []) = fin (c :: e) a b := by rw [List.append_nil]; rfl
  rw [← e2, this, if_pos rfl]
  show upd a b e (-1) (0 + 1) = _
  unfold upd
  split <;> omega
theorem FacS_neg {e : List UInt8} {ps : List Pt} (h : FacS e ps) (c : UInt8) (hc : (c.toNat : Int) = 45) : FacS (c :: e) (ps ++ [(126, 0)]) := by
  have he := h.1
  have f1 := neg_fin0 he c hc 43 45
  have f2 := neg_fin0 he c hc 42 47
  rw [if_pos h.2.1] at f1
  rw [if_pos h.2.2] at f2
  obtain ⟨n, hn⟩ := he.wf
  have hpos := he.pos
  have hold : oldB c.toNat = false := by rw [hc]; rfl
  have hcut : cut (c :: e) = (126, [], e) := by
    unfold cut
    have hca : cutAt (c :: e) = -1 := by unfold cutAt; rw [f1, if_pos (by omega), f2]
    rw [hca, if_neg (by omega), if_pos ⟨by simp; omega, by simp [hc]⟩]
    rfl
  refine ⟨⟨⟨n + 1, .inr (.inr (.inl ⟨by rw [hcut], ps, by rw [hcut]; exact hn, rfl⟩))⟩, by simp, ?_, ?_, ?_, ?_, ?_, ?_, ?_⟩, by rw [f1]; omega, by rw [f2]; omega⟩
  · rw [lst_cons c e hpos]; exact he.ends
  · intro a b p k at_ i r hk hp
    rw [neg_fin he c hc a b p k at_ i r hk hp, lst_cons c e hpos]
    have hl : i + 1 + (e.length : Int) = i + ((c :: e).length : Int) := by simp; omega
    rw [hl]
    congr 1
    by_cases h0 : k = 0
    · rw [if_pos h0, if_pos h0]
      unfold upd
      rw [neg_fin0 he c hc a b]
      have g := fin_ge e a b
      by_cases h1 : fin e a b < 0
      · rw [if_pos h1, if_pos h1, if_pos (by omega)]
      · rw [if_neg h1, if_neg h1, if_neg (by omega)]; omega
    · rw [if_neg h0, if_neg h0]
  · intro x hx
    rw [List.mem_cons] at hx
    rcases hx with rfl | hx
    · omega
    · exact he.chars x hx
  · intro r hr
    rw [List.cons_append]
    exact oldDig_cons_not hold (he.old r hr)
  · intro row r
    rw [List.cons_append, rch_cons_not _ hold, he.rch, nameB_append]
    simp [nameB, oldB]
  · intro q r hr
    rw [List.cons_append, strg_cons_not _ (by rw [hc]; rfl), he.sel _ _ hr, selq_append]
    simp [selq, selB]
  · intro x hx
    simp at hx
    rcases hx with hx | rfl
    · exact he.num x hx
    · simp

/-- Brackets. -/
theorem par_fin {e : List UInt8} {ps : List Pt} (he : ExpS e ps) (c d : UInt8) (hc : (c.toNat : Int) = 40) (hd : (d.toNat : Int) = 41) (a b p k at_ i : Int) (r : List UInt8) (hk : 0 ≤ k) :
    finGo a b p k at_ i ((c :: (e ++ [d])) ++ r) = finGo a b 41 k at_ (i + ((c :: (e ++ [d])).length : Int)) r := by
  have h1 : dep k (c.toNat : Int) = k + 1 := by rw [hc]; simp [dep]
  have h2 : ∀ p q j, hit a b p q at_ j (c.toNat : Int) = at_ := by intro p q j; rw [hc]; simp [hit, binB, opB]
  have h3 : dep (k + 1) (d.toNat : Int) = k := by rw [hd]; simp [dep]
  have h4 : ∀ p q j, hit a b p q at_ j (d.toNat : Int) = at_ := by intro p q j; rw [hd]; simp [hit, binB, opB]
  rw [List.cons_append, List.append_assoc]
  simp only [finGo, h1, h2]
  rw [he.scan a b _ (k + 1) at_ (i + 1) _ (by omega) (by rw [hc]; exact ⟨rfl, by decide⟩), if_neg (by omega)]
  rw [List.cons_append, List.nil_append]
  simp only [finGo, h3, h4]
  rw [hd]
  congr 1
  simp; omega
theorem FacS_par {e : List UInt8} {ps : List Pt} (he : ExpS e ps) (c d : UInt8) (hc : (c.toNat : Int) = 40) (hd : (d.toNat : Int) = 41) : FacS (c :: (e ++ [d])) ps := by
  have f : ∀ a b, fin (c :: (e ++ [d])) a b = -1 := by
    intro a b
    have := par_fin he c d hc hd a b (-1) 0 (-1) 0 [] (by omega)
    simp only [List.append_nil, finGo] at this
    exact this
  obtain ⟨n, hn⟩ := he.wf
  have hpos := he.pos
  have hold : oldB c.toNat = false := by rw [hc]; rfl
  have hold2 : oldB d.toNat = false := by rw [hd]; rfl
  have hcut : cut (c :: (e ++ [d])) = (40, [], e) := by
    unfold cut
    have hca : cutAt (c :: (e ++ [d])) = -1 := by unfold cutAt; rw [f, if_pos (by omega), f]
    rw [hca, if_neg (by omega), if_neg (by rintro ⟨_, h⟩; simp at h; omega), if_pos ⟨by simp; omega, by simp [hc]⟩]
    simp
  have hlst : lst (c :: (e ++ [d])) = 41 := by
    rw [← hd]; exact lst_snoc (c :: e) d
  refine ⟨⟨⟨n + 1, .inr (.inl ⟨by rw [hcut], by rw [hcut]; exact hn⟩)⟩, by simp, .inr hlst, ?_, ?_, ?_, ?_, ?_, he.num⟩, by rw [f]; omega, by rw [f]; omega⟩
  · intro a b p k at_ i r hk hp
    rw [par_fin he c d hc hd a b p k at_ i r hk, hlst]
    congr 1
    unfold upd
    rw [f, if_pos (show (-1 : Int) < 0 by omega)]
    split <;> rfl
  · intro x hx
    rw [List.mem_cons, List.mem_append, List.mem_singleton] at hx
    rcases hx with rfl | hx | rfl
    · omega
    · exact he.chars x hx
    · omega
  · intro r hr
    rw [List.cons_append, List.append_assoc]
    exact oldDig_cons_not hold (he.old _ (oldDig_cons_not hold2 hr))
  · intro row r
    rw [List.cons_append, List.append_assoc, rch_cons_not _ hold, he.rch, List.cons_append, rch_cons_not _ hold2]
    rfl
  · intro q r hr
    rw [List.cons_append, List.append_assoc, strg_cons_not _ (by rw [hc]; rfl), he.sel _ _ (by show digB (d.toNat : Int) = false; rw [hd]; rfl), List.cons_append, strg_cons_not _ (by rw [hd]; rfl)]
    rfl

end Db
namespace Db

theorem valGo_pos (l : List UInt8) (h : ∀ c ∈ l, digB c.toNat = true) : ∀ n : Int, 0 ≤ n → 0 ≤ valGo n l := by
  induction l with
  | nil => intro n hn; exact hn
  | cons c r ih =>
    intro n hn
    have := h c (by simp)
    simp [digB] at this
    exact ih (fun x hx => h x (by simp [hx])) _ (by omega)
theorem val_pos (l : List UInt8) (h : ∀ c ∈ l, digB c.toNat = true) : 0 ≤ val l := valGo_pos l h 0 (by omega)

/-- A text without operations and brackets. -/
def Flat (e : List UInt8) : Prop := ∀ c ∈ e, opB c.toNat = false ∧ ¬ (c.toNat : Int) = 40 ∧ ¬ (c.toNat : Int) = 41
theorem flat_fin (a b : Int) (e : List UInt8) (h : Flat e) : ∀ (p k at_ i : Int) (r : List UInt8), finGo a b p k at_ i (e ++ r) = finGo a b (if e = [] then p else lst e) k at_ (i + e.length) r := by
  induction e with
  | nil => intro p k at_ i r; simp
  | cons c t ih =>
    intro p k at_ i r
    have hc := h c (by simp)
    have h1 : dep k (c.toNat : Int) = k := by simp [dep, hc.2.1, hc.2.2]
    have h2 : hit a b p k at_ i (c.toNat : Int) = at_ := by simp [hit, binB, hc.1]
    rw [List.cons_append]
    simp only [finGo, h1, h2]
    rw [ih (fun x hx => h x (by simp [hx]))]
    have hl : i + 1 + (t.length : Int) = i + ((c :: t).length : Int) := by simp; omega
    rw [hl]
    congr 1
    cases t with
    | nil => simp [lst]
    | cons x y => simp [lst]
theorem dig_flat {c : Int} (h : digB c = true) : opB c = false ∧ ¬ c = 40 ∧ ¬ c = 41 := by simp [digB] at h; simp [opB]; omega
theorem sel_flat {c : Int} (h : selB c = true) : opB c = false ∧ ¬ c = 40 ∧ ¬ c = 41 := by simp [selB] at h; rcases h with (rfl | rfl) | rfl <;> simp [opB]
theorem old_flat {c : Int} (h : oldB c = true) : opB c = false ∧ ¬ c = 40 ∧ ¬ c = 41 := by simp [oldB] at h; rcases h with rfl | rfl <;> simp [opB]
theorem dig_old {c : Int} (h : digB c = true) : oldB c = false := by simp [digB] at h; simp [oldB]; omega
theorem sel_old {c : Int} (h : selB c = true) : oldB c = false := by simp [selB] at h; rcases h with (rfl | rfl) | rfl <;> simp [oldB]
theorem digs_old (ds : List UInt8) (h : ∀ c ∈ ds, digB c.toNat = true) (r : List UInt8) (hr : oldDig r) : oldDig (ds ++ r) := by
  induction ds with
  | nil => exact hr
  | cons c t ih => exact oldDig_cons_not (dig_old (h c (by simp))) (ih (fun x hx => h x (by simp [hx])))
theorem digs_rch (row : Int) (ds : List UInt8) (h : ∀ c ∈ ds, digB c.toNat = true) (r : List UInt8) : rch row (ds ++ r) = rch row r := by
  induction ds with
  | nil => rfl
  | cons c t ih => rw [List.cons_append, rch_cons_not _ (dig_old (h c (by simp))), ih (fun x hx => h x (by simp [hx]))]
theorem dig_sel {c : Int} (h : digB c = true) : selB c = false := by simp [digB] at h; simp [selB]; omega
theorem digs_strg (q : Int → Bool) (ds : List UInt8) (h : ∀ c ∈ ds, digB c.toNat = true) (r : List UInt8) : strg q (ds ++ r) = strg q r := by
  induction ds with
  | nil => rfl
  | cons c t ih => rw [List.cons_append, strg_cons_not _ (dig_sel (h c (by simp))), ih (fun x hx => h x (by simp [hx]))]
theorem dg2_all (ds : List UInt8) (h : ∀ c ∈ ds, digB c.toNat = true) (h1 : 1 ≤ ds.length) (h2 : ds.length ≤ 2) (r : List UInt8) (hr : digB (hd r) = false) : dg2 (ds ++ r) = ds := by
  match ds, h1, h2 with
  | [x], _, _ =>
    have hx := h x (by simp)
    unfold dg2
    cases r with
    | nil => simp [hx]
    | cons y t => simp only [hd] at hr; simp [hx, hr]
  | [x, y], _, _ =>
    have hx := h x (by simp)
    have hy := h y (by simp)
    unfold dg2
    simp [hx, hy]
  | _ :: _ :: _ :: _, _, h2 => simp at h2
theorem lst_mem (e : List UInt8) (h : 0 < e.length) : ∃ c ∈ e, lst e = c.toNat := by
  cases hl : e.getLast? with
  | none => simp at hl; subst hl; simp at h
  | some c => exact ⟨c, List.mem_of_getLast? hl, by simp [lst, hl]⟩

/-- An operand is a factor. -/
theorem opnd_shape {e : List UInt8} {ps : List Pt} (h : Opnd e ps) : FacS e ps := by
  have hpos : 0 < e.length := by
    rcases h with ⟨h1, _⟩ | ⟨c, ds, rfl, _⟩
    · omega
    · simp
  have hflat : Flat e := by
    rcases h with ⟨_, _, hd, _⟩ | ⟨c, ds, rfl, _, hd, hs, _⟩
    · exact fun c hc => dig_flat (hd c hc)
    · intro x hx
      rw [List.mem_cons] at hx
      rcases hx with rfl | hx
      · rcases hs with ⟨hs, _⟩ | ⟨hs, _⟩
        · exact sel_flat hs
        · exact old_flat hs
      · exact dig_flat (hd x hx)
  have hfin : ∀ a b, fin e a b = -1 := by
    intro a b
    have := flat_fin a b e hflat (-1) 0 (-1) 0 []
    rw [List.append_nil] at this
    exact this
  have hlast : digB (lst e) = true := by
    rcases h with ⟨h1, _, hd, _⟩ | ⟨c, ds, rfl, h1, hd, hs, _⟩
    · obtain ⟨x, hx, he⟩ := lst_mem e hpos
      rw [he]; exact hd x hx
    · rw [lst_cons c ds (by omega)]
      obtain ⟨x, hx, he⟩ := lst_mem ds (by omega)
      rw [he]; exact hd x hx
  have hhead : ∀ c : Int, ((e.getD 0 0).toNat : Int) = c → ¬ c = 45 ∧ ¬ c = 40 := by
    intro c hc
    match e, hpos, hflat with
    | x :: t, _, hfl =>
      have hx := hfl x (by simp)
      simp at hc
      subst hc
      exact ⟨by intro h; rw [h] at hx; simp [opB] at hx, hx.2.1⟩
  have hcut : cut e = (0, [], e) := by
    unfold cut
    have hca : cutAt e = -1 := by unfold cutAt; rw [hfin, if_pos (by omega), hfin]
    rw [hca, if_neg (by omega), if_neg (fun hx => (hhead _ rfl).1 hx.2), if_neg (fun hx => (hhead _ rfl).2 hx.2)]
  refine ⟨⟨⟨1, .inl ⟨hcut, h⟩⟩, hpos, .inl hlast, ?_, ?_, ?_, ?_, ?_, ?_⟩, by rw [hfin]; omega, by rw [hfin]; omega⟩
  · intro a b p k at_ i r hk hp
    rw [flat_fin a b e hflat]
    have : ¬ e = [] := by intro h0; subst h0; simp at hpos
    rw [if_neg this]
    congr 1
    unfold upd
    rw [hfin, if_pos (show (-1 : Int) < 0 by omega)]
    split <;> rfl
  · intro c hc
    rcases h with ⟨_, _, hd, _⟩ | ⟨x, ds, rfl, _, hd, hs, _⟩
    · have := hd c hc; simp [digB] at this; omega
    · rw [List.mem_cons] at hc
      rcases hc with rfl | hc
      · rcases hs with ⟨hs, _⟩ | ⟨hs, _⟩
        · simp [selB] at hs; omega
        · simp [oldB] at hs; omega
      · have := hd c hc; simp [digB] at this; omega
  · intro r hr
    rcases h with ⟨_, _, hd, _⟩ | ⟨x, ds, rfl, h1, hd, hs, _⟩
    · exact digs_old e hd r hr
    · refine ⟨fun _ => ?_, digs_old ds hd r hr⟩
      match ds, h1, hd with
      | y :: t, _, hd => exact hd y (by simp)
  · intro row r
    rcases h with ⟨_, _, hd, rfl⟩ | ⟨x, ds, rfl, h1, hd, hs, rfl⟩
    · rw [digs_rch row e hd r]; simp [nameB, oldB]
    · rcases hs with ⟨hs, _⟩ | ⟨hs, hl⟩
      · rw [List.cons_append, rch_cons_not _ (sel_old hs), digs_rch row ds hd r]
        simp [nameB, sel_old hs]
      · obtain ⟨y, rfl⟩ := List.length_eq_one_iff.1 hl
        rw [List.cons_append, List.cons_append, List.nil_append]
        show ((oldB x.toNat && decide (row ≤ (y.toNat : Int) - 48)) || rch row (y :: r)) = _
        rw [rch_cons_not _ (dig_old (hd y (by simp)))]
        simp [nameB, val, valGo, hs]
  · intro q r hr
    rcases h with ⟨_, _, hd, rfl⟩ | ⟨x, ds, rfl, h1, hd, hs, rfl⟩
    · rw [digs_strg q e hd r]; simp [selq, selB]
    · rcases hs with ⟨hs, hl⟩ | ⟨hs, hl⟩
      · rw [List.cons_append]
        show ((selB x.toNat && q (val (dg2 (ds ++ r)))) || strg q (ds ++ r)) = _
        rw [digs_strg q ds hd r, dg2_all ds hd h1 hl r hr]
        simp [selq, hs]
      · have hns : selB (x.toNat : Int) = false := (old_c hs).2.2.2.2
        rw [List.cons_append, strg_cons_not _ hns, digs_strg q ds hd r]
        simp [selq, hns]
  · intro p hp
    rcases h with ⟨_, _, hd, rfl⟩ | ⟨x, ds, rfl, h1, hd, hs, rfl⟩
    · simp at hp; subst hp; exact val_pos e hd
    · simp at hp; subst hp; exact val_pos ds hd

/-- Reading a factor (a term, an expression) off l: l' is left, ps are its parts; or it stops ahead of l'. S: the shape of what was read; H: what is known of what is left. -/
def Got (S : List UInt8 → List Pt → Prop) (H : List UInt8 → Prop) (l : List UInt8) (ok : Bool) (l' : List UInt8) (ps : List Pt) : Prop :=
  ∃ x, l = x ++ l' ∧ (ok = true → (∀ d k i : Int, 0 ≤ k → plc 6 d k i l = plc 11 0 k (i + x.length) l') ∧ S (bare x) ps ∧ H l') ∧ (ok = false → ∀ d k i : Int, 0 ≤ k → plc 6 d k i l = i + x.length)
def Fac := Got FacS (fun _ => True)
/-- Neither a blank nor one of these operations is left. -/
def Trm := Got TrmS (fun l => ¬ hd l = 32 ∧ ¬ hd l = 42 ∧ ¬ hd l = 47)
def Exp := Got ExpS (fun l => ¬ hd l = 32 ∧ opB (hd l) = false)

theorem fac_blanks {x l l' : List UInt8} {ok : Bool} {ps : List Pt} {S : List UInt8 → List Pt → Prop} {H : List UInt8 → Prop} (hx : Blanks x) (h : Got S H l ok l' ps) : Got S H (x ++ l) ok l' ps := by
  obtain ⟨y, rfl, h1, h2⟩ := h
  refine ⟨x ++ y, by simp, fun ho => ⟨fun d k i hk => ?_, ?_, (h1 ho).2.2⟩, fun ho d k i hk => ?_⟩
  · rw [plc_skip 6 (by simp) x hx, (h1 ho).1 d k _ hk]
    congr 1
    simp; omega
  · rw [bare_append, bare_blanks hx]; exact (h1 ho).2.1
  · rw [plc_skip 6 (by simp) x hx, h2 ho d k _ hk]
    simp; omega
theorem fac_opnd {e l' : List UInt8} {ps : List Pt} (h : Opnd e ps) (he : ∀ d k i : Int, plc 6 d k i (e ++ l') = plc 11 0 k (i + e.length) l') : Fac (e ++ l') true l' ps := by
  have hs := opnd_shape h
  refine ⟨e, rfl, fun _ => ⟨fun d k i _ => he d k i, ?_, trivial⟩, fun h0 => by cases h0⟩
  have : bare e = e := by
    unfold bare; rw [List.filter_eq_self]; intro c hc
    have := (hs.1.chars c hc).1
    simpa using this
  rw [this]; exact hs
theorem bare_cons {c : UInt8} (h : ¬ c.toNat = 32) (l : List UInt8) : bare (c :: l) = c :: bare l := by
  rw [show c :: l = [c] ++ l from rfl, bare_append, bare_other h]; rfl
theorem fac_neg {c : UInt8} (hc : (c.toNat : Int) = 45) {l l' : List UInt8} {ok : Bool} {ps : List Pt} (h : Fac l ok l' ps) : Fac (c :: l) ok l' (ps ++ [(126, 0)]) := by
  obtain ⟨y, rfl, h1, h2⟩ := h
  refine ⟨c :: y, rfl, fun ho => ⟨fun d k i hk => ?_, ?_, trivial⟩, fun ho d k i hk => ?_⟩
  · rw [plc_neg hc, (h1 ho).1 d k _ hk]
    congr 1
    simp; omega
  · rw [bare_cons (by omega)]; exact FacS_neg (h1 ho).2.1 c hc
  · rw [plc_neg hc, h2 ho d k _ hk]
    simp; omega
/-- A bracket that is opened, an expression: it fails there. -/
theorem fac_par_no {c : UInt8} (hc : (c.toNat : Int) = 40) {l l' : List UInt8} {ps ps' : List Pt} (h : Exp l false l' ps) : Fac (c :: l) false l' ps' := by
  obtain ⟨y, rfl, h1, h2⟩ := h
  refine ⟨c :: y, rfl, (fun h0 => by cases h0), fun _ d k i hk => ?_⟩
  rw [plc_par hc, h2 rfl d (k + 1) _ (by omega)]
  simp; omega
theorem fac_par_open {c : UInt8} (hc : (c.toNat : Int) = 40) {l l' : List UInt8} {ps ps' : List Pt} (h : Exp l true l' ps) (h41 : ¬ hd l' = 41) : Fac (c :: l) false l' ps' := by
  obtain ⟨y, rfl, h1, h2⟩ := h
  have h3 := (h1 rfl).2.2
  refine ⟨c :: y, rfl, (fun h0 => by cases h0), fun _ d k i hk => ?_⟩
  rw [plc_par hc, (h1 rfl).1 d (k + 1) _ (by omega), plc_fail11 l' h3.1 h3.2 h41 _ _ _ hk]
  simp; omega
theorem fac_par_yes {c e : UInt8} (hc : (c.toNat : Int) = 40) (he : (e.toNat : Int) = 41) {l l' : List UInt8} {ps : List Pt} (h : Exp l true (e :: l') ps) : Fac (c :: l) true l' ps := by
  obtain ⟨y, rfl, h1, h2⟩ := h
  refine ⟨c :: (y ++ [e]), by simp, fun _ => ⟨fun d k i hk => ?_, ?_, trivial⟩, fun h0 => by cases h0⟩
  · rw [plc_par hc, (h1 rfl).1 d (k + 1) _ (by omega), plc_shut he _ _ _ hk]
    congr 1
    simp; omega
  · rw [bare_cons (by omega), bare_append, bare_other (by omega)]; exact FacS_par (h1 rfl).2.1 c e hc he
/-- From a factor to a term: blanks behind it are passed over. -/
theorem trm_fac {l x l' : List UInt8} {ps : List Pt} (h : Fac l true (x ++ l') ps) (hx : Blanks x) : Got TrmS (fun _ => True) l true l' ps := by
  obtain ⟨y, rfl, h1, h2⟩ := h
  refine ⟨y ++ x, by simp, fun _ => ⟨fun d k i hk => ?_, ?_, trivial⟩, fun h0 => by cases h0⟩
  · rw [(h1 rfl).1 d k _ hk, plc_skip 11 (by simp) x hx]
    congr 1
    simp; omega
  · rw [bare_append, bare_blanks hx, List.append_nil]; exact (h1 rfl).2.1.trm
theorem trm_no {l l' : List UInt8} {ps ps' : List Pt} {S : List UInt8 → List Pt → Prop} {H : List UInt8 → Prop} {S' : List UInt8 → List Pt → Prop} {H' : List UInt8 → Prop} (h : Got S H l false l' ps) : Got S' H' l false l' ps' := by
  obtain ⟨y, rfl, h1, h2⟩ := h
  exact ⟨y, rfl, (fun h0 => by cases h0), h2⟩
theorem trm_end {S : List UInt8 → List Pt → Prop} {H : List UInt8 → Prop} {l l' : List UInt8} {ps : List Pt} (h : Got S (fun _ => True) l true l' ps) (hh : H l') : Got S H l true l' ps := by
  obtain ⟨y, rfl, h1, h2⟩ := h
  exact ⟨y, rfl, fun _ => ⟨(h1 rfl).1, (h1 rfl).2.1, hh⟩, h2⟩
/-- A term, * or /, a factor. -/
theorem trm_mul {o : UInt8} (ho : (o.toNat : Int) = 42 ∨ (o.toNat : Int) = 47) {l r x l' : List UInt8} {p q : List Pt} (h : Got TrmS (fun _ => True) l true (o :: r) p) (hf : Fac r true (x ++ l') q) (hx : Blanks x) : Got TrmS (fun _ => True) l true l' (p ++ q ++ [((o.toNat : Int), 0)]) := by
  obtain ⟨y, rfl, h1, h2⟩ := h
  obtain ⟨z, rfl, g1, g2⟩ := hf
  have hop : opB o.toNat = true := by rcases ho with h | h <;> rw [h] <;> rfl
  refine ⟨y ++ o :: (z ++ x), by simp, fun _ => ⟨fun d k i hk => ?_, ?_, trivial⟩, fun h0 => by cases h0⟩
  · rw [(h1 rfl).1 d k _ hk, plc_op hop, (g1 rfl).1 _ k _ hk, plc_skip 11 (by simp) x hx]
    congr 1
    simp; omega
  · rw [bare_append, bare_cons (by omega), bare_append, bare_blanks hx, List.append_nil]; exact TrmS_mul (h1 rfl).2.1 (g1 rfl).2.1 o ho
theorem op_no {o : UInt8} (hop : opB o.toNat = true) {S : List UInt8 → List Pt → Prop} {H : List UInt8 → Prop} {S' : List UInt8 → List Pt → Prop} {H' : List UInt8 → Prop} {S2 : List UInt8 → List Pt → Prop} {H2 : List UInt8 → Prop} {l r l' : List UInt8} {p q p' : List Pt} (h : Got S H l true (o :: r) p) (hf : Got S' H' r false l' q) : Got S2 H2 l false l' p' := by
  obtain ⟨y, rfl, h1, h2⟩ := h
  obtain ⟨z, rfl, g1, g2⟩ := hf
  refine ⟨y ++ o :: z, by simp, (fun h0 => by cases h0), fun _ d k i hk => ?_⟩
  rw [(h1 rfl).1 d k _ hk, plc_op hop, g2 rfl _ k _ hk]
  simp; omega
/-- An expression, + or -, a term. -/
theorem exp_add {o : UInt8} (ho : (o.toNat : Int) = 43 ∨ (o.toNat : Int) = 45) {l r l' : List UInt8} {p q : List Pt} (h : Got ExpS (fun _ => True) l true (o :: r) p) (hf : Trm r true l' q) : Got ExpS (fun l => ¬ hd l = 32 ∧ ¬ hd l = 42 ∧ ¬ hd l = 47) l true l' (p ++ q ++ [((o.toNat : Int), 0)]) := by
  obtain ⟨y, rfl, h1, h2⟩ := h
  obtain ⟨z, rfl, g1, g2⟩ := hf
  have hop : opB o.toNat = true := by rcases ho with h | h <;> rw [h] <;> rfl
  refine ⟨y ++ o :: z, by simp, fun _ => ⟨fun d k i hk => ?_, ?_, (g1 rfl).2.2⟩, fun h0 => by cases h0⟩
  · rw [(h1 rfl).1 d k _ hk, plc_op hop, (g1 rfl).1 _ k _ hk]
    congr 1
    simp; omega
  · rw [bare_append, bare_cons (by omega)]; exact ExpS_add (h1 rfl).2.1 (g1 rfl).2.1 o ho
theorem exp_trm {l l' : List UInt8} {ps : List Pt} (h : Trm l true l' ps) : Got ExpS (fun l => ¬ hd l = 32 ∧ ¬ hd l = 42 ∧ ¬ hd l = 47) l true l' ps := by
  obtain ⟨y, rfl, h1, h2⟩ := h
  exact ⟨y, rfl, fun _ => ⟨(h1 rfl).1, (h1 rfl).2.1.1, (h1 rfl).2.2⟩, h2⟩
theorem got_any {S : List UInt8 → List Pt → Prop} {H : List UInt8 → Prop} {l l' : List UInt8} {ok : Bool} {ps : List Pt} (h : Got S H l ok l' ps) : Got S (fun _ => True) l ok l' ps := by
  obtain ⟨y, rfl, h1, h2⟩ := h
  exact ⟨y, rfl, fun ho => ⟨(h1 ho).1, (h1 ho).2.1, trivial⟩, h2⟩

end Db
