/- A record and a book of one Bk: says, do. A record and a book: ready, played. Lines that came in: from the reading of the argument to the list that a walk wants. Steps on a book that came in: from the reading of the argument to the lists that a walk wants. The program's book: Writes. A record and a book: quiet. Refused: what a step changes is what it writes. Reports: the document's within and taken. Walks of the document's answer: value, bare, split. -/
import Derived.Test.YtdchbenfccofpaaGreatDoorF07
import Derived.Test.YtdchbenfccofpaaGreatDoorF03
import Derived.Deep.SlicePairs
import Derived.SizedLaws
import Derived.Carry
import Derived.ProofKit
import Derived.OpenShut
import Derived.Test.YtdchbenfccofpaaGreatDoorF06
import Derived.Laws.AppendOwnNone
import Derived.Test.YtdchbenfccofpaaGreatDoorF01
import Derived.Deep.LoopGhost
namespace Go.Proofs.YtdchbenfccofpaaGreatDoor
open Go.RowKit Db

theorem opn_yes {s : Bk} {a : Int} (h : (opn s a).2.1 = 0) : ∃ (k : Nat) (c : Ac), a = k ∧ s.acs[k]? = some c ∧ c.2 = false ∧ s.acs.length < 16 ∧ opn s a = ((s.acs.length : Int), 0, { s with acs := s.acs ++ [((k : Int), false)] }) := by
  unfold opn at h ⊢
  split at h
  · simp at h
  split at h
  · simp at h
  split at h
  · simp at h
  rename_i h1 h2 h3
  have h4 : ther s a = true := by cases hx : ther s a with | true => rfl | false => exact absurd hx h1
  have h5 := h4
  unfold ther at h5
  simp only [Bool.and_eq_true, decide_eq_true_eq] at h5
  obtain ⟨k, rfl⟩ : ∃ k : Nat, a = k := ⟨a.toNat, by omega⟩
  obtain ⟨c, hc⟩ := acs_get (s := s) (k := k) (by omega)
  refine ⟨k, c, rfl, hc, ?_, by omega, by rw [if_neg h1, if_neg h2, if_neg h3]⟩
  rw [← clsd_at hc]
  simpa using h2
theorem cls_yes {s : Bk} {a : Int} (h : (cls s a).1 = 0) : ∃ (k : Nat) (c : Ac), a = k ∧ s.acs[k]? = some c ∧ 1 ≤ k ∧ c.2 = false ∧ cls s a = (0, { s with acs := s.acs.set k (c.1, true) }) := by
  unfold cls at h ⊢
  split at h
  · simp at h
  split at h
  · simp at h
  split at h
  · simp at h
  split at h
  · simp at h
  rename_i h1 h2 h3 h6
  have h4 : ther s a = true := by cases hx : ther s a with | true => rfl | false => exact absurd (.inl hx) h1
  have h0 : ¬ a = 0 := fun e => h1 (.inr e)
  have h5 := h4
  unfold ther at h5
  simp only [Bool.and_eq_true, decide_eq_true_eq] at h5
  obtain ⟨k, rfl⟩ : ∃ k : Nat, a = k := ⟨a.toNat, by omega⟩
  obtain ⟨c, hc⟩ := acs_get (s := s) (k := k) (by omega)
  refine ⟨k, c, rfl, hc, by omega, ?_, ?_⟩
  · rw [← clsd_at hc]
    simpa using h2
  · rw [if_neg h1, if_neg h2, if_neg h3, if_neg h6]
    simp [hc]
theorem lnsE_open {s : Bk} {ls : List Ln} (h : lnsE s ls = 0) : (∀ l ∈ ls, clsd s l.1 = false) ∧ sumL ls = 0 := by
  unfold lnsE at h
  split at h
  · simp at h
  split at h
  · simp at h
  split at h
  · simp at h
  split at h
  · simp at h
  split at h
  · simp at h
  rename_i h4 h5
  refine ⟨fun l hl => ?_, by simpa using h5⟩
  cases hx : clsd s l.1 with
  | false => rfl
  | true => exact absurd (List.any_eq_true.2 ⟨l, hl, hx⟩) h4
theorem pst_yes {s : Bk} (hg : BkGood s) {a b : Int} {ls : List Ln} (h : (pst s a b ls).1 = 0) : (∃ t, findT a s.txs = some t ∧ t.2.1 = b ∧ t.2.2 = ls ∧ (pst s a b ls).2 = s) ∨
    (findT a s.txs = none ∧ ls.length ≤ 4 ∧ s.txs.length < 64 ∧ (∀ l ∈ ls, 0 < l.1 ∧ l.1 < s.acs.length ∧ -1000000000000 ≤ l.2 ∧ l.2 ≤ 1000000000000 ∧ clsd s l.1 = false) ∧ sumL ls = 0 ∧ (pst s a b ls).2 = { s with txs := s.txs ++ [(a, b, ls)] }) := by
  by_cases hid : a < 0 ∨ 9999 < a
  · rw [pst_id hid] at h; simp at h
  cases hfd : findT a s.txs with
  | some t =>
    rw [pst_old hid hfd] at h ⊢
    left
    unfold repE at h
    simp only at h
    refine ⟨t, rfl, ?_⟩
    by_cases hx : t.2.1 = b ∧ t.2.2 = ls
    · exact ⟨hx.1, hx.2, rfl⟩
    · rw [if_neg hx] at h; simp at h
  | none =>
    right
    by_cases hd : b < 0 ∨ 999 < b
    · rw [pst_day hid hfd hd] at h; simp at h
    by_cases hlz : lnsE s ls = 0
    · by_cases h64 : 64 ≤ s.txs.length
      · rw [pst_full hid hfd hd hlz h64] at h; simp at h
      · have h1 := lnsE_ok hg hlz
        have h2 := lnsE_open hlz
        refine ⟨rfl, h1.1, by omega, fun l hl => ?_, h2.2, by rw [pst_ok hid hfd hd hlz h64]⟩
        obtain ⟨k1, k2, k3, k4⟩ := h1.2 l hl
        exact ⟨k1, k2, k3, k4, h2.1 l hl⟩
    · rw [pst_bad hid hfd hd hlz] at h; exact absurd h hlz
theorem clE_no {s : Bk} {kd a b : Int} {ls : List Ln} (h : ¬ (clE s kd a b ls).2.1 = 0) : (clE s kd a b ls).1 = 0 ∧ (clE s kd a b ls).2.2 = s := by
  unfold clE at h ⊢
  split at h
  · rename_i h1
    rw [if_pos h1]
    unfold opn at h ⊢
    repeat' split
    all_goals first | exact ⟨rfl, rfl⟩ | skip
    rename_i e1 e2 e3
    rw [if_neg e1, if_neg e2, if_neg e3] at h
    simp at h
  · rename_i h1
    rw [if_neg h1]
    split at h
    · rename_i h2
      rw [if_pos h2]
      refine ⟨rfl, ?_⟩
      unfold cls at h ⊢
      repeat' split
      all_goals first | rfl | skip
      rename_i e1 e2 e3 e4
      simp only [if_neg e1, if_neg e2, if_neg e3, if_neg e4] at h
      simp at h
    · rename_i h2
      rw [if_neg h2]
      split at h
      · rename_i h3
        rw [if_pos h3]
        refine ⟨rfl, ?_⟩
        unfold pst at h ⊢
        simp only at h
        split
        · rfl
        · rename_i e1
          rw [if_neg e1] at h
          split
          · rfl
          · rename_i e2
            rw [e2] at h
            simp only at h
            repeat' split
            all_goals first | rfl | skip
            rename_i f1 f2 f3
            rw [if_neg f1, if_neg f2, if_neg f3] at h
            simp at h
      · simp at h
theorem clE_good {s : Bk} (hg : BkGood s) (kd a b : Int) (ls : List Ln) : BkGood (clE s kd a b ls).2.2 := by
  unfold clE
  repeat' split
  · exact hg.opn a
  · exact hg.cls a
  · exact hg.pst a b ls
  · exact hg

theorem Rec.good {w : World} {B q : Nat} {s : Bk} (h : Rec w B q s) : BkGood s := by obtain ⟨_, _, _, _, h⟩ := h; exact h.good
theorem Rec.frP {w w' : World} {B B' q : Nat} {s : Bk} (h : Rec w B q s) (hf : FrT B' tP w w') : Rec w' B q s := by
  obtain ⟨vp, vc, vt, tv, h⟩ := h
  exact ⟨_, _, _, _, h.frT hf (by decide) (by decide)⟩
theorem LedW.frK {w w' : World} {B B' p u : Nat} {ws : List Wr} {s : Bk} (h : LedW w B p u ws s) (hf : FrT B' tK w w') : LedW w' B p u ws s := by
  obtain ⟨va, vt, tv, vw, h⟩ := h
  exact ⟨_, _, _, _, h.frT hf (by decide) (by decide)⟩
theorem LedW.kept {w w' : World} {B p u : Nat} {ws : List Wr} {s : Bk} (h : LedW w B p u ws s) (hb : Below w.heap.size w w') : LedW w' B p u ws s := by
  obtain ⟨va, vt, tv, vw, h⟩ := h
  exact ⟨_, _, _, _, h.kept hb⟩
def tPK : List TypeId := tP ++ tK

set_option maxRecDepth 100000 in
set_option maxHeartbeats 1000000 in
theorem yes_none (B q : Nat) (s : Bk) (kd a b n : Int) (ao : Option Addr) (m cap : Nat) (w : World) (h : Rec w B q s) (h1 : ¬ kd = 1) (h2 : ¬ kd = 2) (h3 : ¬ kd = 3) :
    Calls Tryz.prog 38 #[.pointer (some ⟨q, 0, none⟩), .agg #[.int .i64 kd, .int .i64 a, .int .i64 b, .slice ao m cap], .int .i64 n] w fun e w' => e = .returned (.bool true) ∧ Rec w' B q s ∧ FrT B tK w w' := by
  have n1 : (kd == 1) = false := by simpa using h1
  have n2 : (kd == 2) = false := by simpa using h2
  have n3 : (kd == 3) = false := by simpa using h3
  have H := hide h
  clear h h1 h2 h3
  go_enter Tryz.func38, Tryz.ntmps38
  go_wp2_with fail
  go_ret
  have hb := (Below.refl _ w).alloc (Nat.le_refl _) (.cells #[.int .i64 kd, .int .i64 a, .int .i64 b, .slice ao m cap] 76)
  exact ⟨rfl, (unhide H).kept hb, FrT.of_below hb⟩

theorem yes_any (B q : Nat) (s : Bk) (kd a b : Int) (ao : Option Addr) (cap : Nat) (ls : List Ln) (w : World) (h : Rec w B q s) (hl : LinesAt w (.slice ao ls.length cap) ls) (he : (clE s kd a b ls).2.1 = 0) :
    Calls Tryz.prog 38 #[.pointer (some ⟨q, 0, none⟩), .agg #[.int .i64 kd, .int .i64 a, .int .i64 b, .slice ao ls.length cap], .int .i64 (clE s kd a b ls).1] w fun e w' => e = .returned (.bool true) ∧ Rec w' B q (clE s kd a b ls).2.2 ∧ FrT B tK w w' := by
  have hg := clE_good h.good kd a b ls
  by_cases h1 : kd = 1
  · subst h1
    have e1 : clE s 1 a b ls = opn s a := rfl
    rw [e1] at he hg ⊢
    obtain ⟨k, c, rfl, hc, hcc, h16, e2⟩ := opn_yes he
    rw [e2] at hg ⊢
    exact yes_open B q s k b ao ls.length cap c w h hc hcc h16 hg
  by_cases h2 : kd = 2
  · subst h2
    have e1 : clE s 2 a b ls = (0, (cls s a).1, (cls s a).2) := rfl
    rw [e1] at he hg ⊢
    obtain ⟨k, c, rfl, hc, h0, hcc, e2⟩ := cls_yes he
    rw [e2] at hg ⊢
    exact yes_close B q s k b 0 ao ls.length cap c w h hc h0 hcc hg
  by_cases h3 : kd = 3
  · subst h3
    have e1 : clE s 3 a b ls = (0, (pst s a b ls).1, (pst s a b ls).2) := rfl
    rw [e1] at he hg ⊢
    rcases pst_yes h.good he with ⟨t, hf, hb, hls, e2⟩ | ⟨hf, h4, h64, hls, hsum, e2⟩
    · simp only at hg ⊢
      rw [e2]
      exact (yes_old B q s a b 0 ao cap ls t w h hl hf hb hls).mono fun _ _ ⟨k1, k2⟩ => ⟨k1, h.kept k2, FrT.of_below k2⟩
    · simp only at hg ⊢
      rw [e2] at hg ⊢
      exact yes_post B q s a b 0 ao cap ls w h hl hf h4 h64 hls hsum hg
  · have e1 : clE s kd a b ls = (0, 0, s) := by unfold clE; rw [if_neg h1, if_neg h2, if_neg h3]
    rw [e1]
    exact yes_none B q s kd a b 0 ao ls.length cap w h h1 h2 h3

set_option maxRecDepth 100000 in
set_option maxHeartbeats 2000000 in
theorem says_any (B q p u : Nat) (ws : List Wr) (s : Bk) (kd a b : Int) (ao : Option Addr) (cap : Nat) (ls : List Ln) (w : World) (hr : Rec w B q s) (hb : LedW w B p u ws s) (hk : ∀ w', FrT B tP w w' → LinesAt w' (.slice ao ls.length cap) ls) (hn : ls.length ≤ 8796093022000) :
    Calls Tryz.prog 91 #[.pointer (some ⟨q, 0, none⟩), .pointer (some ⟨p, 0, none⟩), .agg #[.int .i64 kd, .int .i64 a, .int .i64 b, .slice ao ls.length cap]] w fun e w' => e = .returned (.bool true) ∧ Rec w' B q (clE s kd a b ls).2.2 ∧ LedW w' B p (dkU (clY s kd a b ls) u) (dkW (clY s kd a b ls) u (clX kd a b ls) ws) (clE s kd a b ls).2.2 ∧ FrT B tPK w w' := by
  obtain ⟨bx, hbx⟩ : ∃ bx, w.heap.size = bx := ⟨_, rfl⟩
  obtain ⟨W, hW⟩ : ∃ W, w.alloc (.cells #[.int .i64 kd, .int .i64 a, .int .i64 b, .slice ao ls.length cap] 76) = W := ⟨_, rfl⟩
  have HX : Hid (Blk W bx #[.int .i64 kd, .int .i64 a, .int .i64 b, .slice ao ls.length cap] 76) := by rw [← hW, ← hbx]; exact Blk.new _ _ _
  have Hb0 : Hid (Below w.heap.size w W) := by rw [← hW]; exact (Below.refl _ _).alloc (Nat.le_refl _) _
  have Hc := hide (calledW_any B p u ws s kd a b ao cap ls W (hb.kept (unhide Hb0)) (hk W (FrT.of_below (unhide Hb0))) hn)
  have HR0 := hide (hr.kept (unhide Hb0))
  have HK : Hid (∀ w', FrT B tP W w' → LinesAt w' (.slice ao ls.length cap) ls) := fun w' hf => hk w' ((FrT.of_below (unhide Hb0)).trans hf)
  have Hno := hide (fun h => clE_no (s := s) (kd := kd) (a := a) (b := b) (ls := ls) h)
  have Hy := hide (fun (wx : World) (h : Rec wx B q s) (hl : LinesAt wx (.slice ao ls.length cap) ls) (he : (clE s kd a b ls).2.1 = 0) => yes_any B q s kd a b ao cap ls wx h hl he)
  obtain ⟨⟨x, y, s'⟩, hcl⟩ : ∃ r, clE s kd a b ls = r := ⟨_, rfl⟩
  obtain ⟨u', hu'⟩ : ∃ u', dkU (clY s kd a b ls) u = u' := ⟨_, rfl⟩
  obtain ⟨ws', hws'⟩ : ∃ ws', dkW (clY s kd a b ls) u (clX kd a b ls) ws = ws' := ⟨_, rfl⟩
  rw [hcl, hu', hws'] at Hc ⊢
  rw [hcl] at Hno Hy
  simp only at Hc Hno Hy ⊢
  have x0 := (unhide HX).cell 0
  have x1 := (unhide HX).cell 1
  have x2 := (unhide HX).cell 2
  have x3 := (unhide HX).cell 3
  simp only [List.getElem?_toArray, List.getElem?_cons_zero, List.getElem?_cons_succ] at x0 x1 x2 x3
  clear hr hb hk hcl hu' hws'
  by_cases hy : y = 0
  · subst hy
    go_enter Tryz.func91, Tryz.ntmps91
    go_wp2_with fail
    try rw [hW]
    try rw [hbx]
    clear hW hbx
    refine (unhide Hc).mono ?_
    rintro e w1 ⟨rfl, k1, k2⟩
    have K1 := hide k1
    have K2 := hide k2
    have HX1 := hide ((unhide HX).frT k2 (by decide))
    have Hyy := hide (unhide Hy w1 ((unhide HR0).frP k2) (unhide HK w1 k2) (by trivial))
    have y0 := (unhide HX1).cell 0
    have y1 := (unhide HX1).cell 1
    have y2 := (unhide HX1).cell 2
    have y3 := (unhide HX1).cell 3
    simp only [List.getElem?_toArray, List.getElem?_cons_zero, List.getElem?_cons_succ] at y0 y1 y2 y3
    clear k1 k2 x0 x1 x2 x3 Hc Hy
    go_wp2_with fail
    refine (unhide Hyy).mono ?_
    rintro e w2 ⟨rfl, j1, j2⟩
    have HF : Hid (Rec w2 B q s' ∧ LedW w2 B p u' ws' s' ∧ FrT B tPK w w2) := ⟨j1, (unhide K1).frK j2, ((FrT.of_below (unhide Hb0)).trans ((unhide K2).mono (by simp [tPK]; intros; simp [*]))).trans (j2.mono (by simp [tPK]; intros; simp [*]))⟩
    clear j1 j2 Hyy
    go_wp2_with fail
    go_ret
    exact ⟨rfl, unhide HF⟩
  · have hye : (y == 0) = false := by simpa using hy
    obtain ⟨rfl, rfl⟩ := unhide Hno hy
    go_enter Tryz.func91, Tryz.ntmps91
    go_wp2_with fail
    try rw [hW]
    try rw [hbx]
    clear hW hbx
    refine (unhide Hc).mono ?_
    rintro e w1 ⟨rfl, k1, k2⟩
    have HF : Hid (Rec w1 B q s' ∧ LedW w1 B p u' ws' s' ∧ FrT B tPK w w1) := ⟨(unhide HR0).frP k2, k1, (FrT.of_below (unhide Hb0)).trans (k2.mono (by simp [tPK]; intros; simp [*]))⟩
    clear k1 k2 Hc
    go_wp2_with fail
    go_ret
    exact ⟨rfl, unhide HF⟩

set_option maxRecDepth 100000 in
set_option maxHeartbeats 2000000 in
theorem kdo_any (B q p u : Nat) (ws : List Wr) (s : Bk) (kd a b : Int) (ao : Option Addr) (cap : Nat) (ls : List Ln) (w : World) (hr : Rec w B q s) (hb : LedW w B p u ws s) (hk : ∀ w', FrT B tP w w' → LinesAt w' (.slice ao ls.length cap) ls) (hn : ls.length ≤ 8796093022000) (hB : ∀ w', FrT B tPK w w' → Tab w') :
    Calls Tryz.prog 56 #[.pointer (some ⟨q, 0, none⟩), .pointer (some ⟨p, 0, none⟩), .agg #[.int .i64 kd, .int .i64 a, .int .i64 b, .slice ao ls.length cap]] w fun e w' => e = .returned (.bool true) ∧ Rec w' B q (clE s kd a b ls).2.2 ∧ LedW w' B p (dkU (clY s kd a b ls) u) (dkW (clY s kd a b ls) u (clX kd a b ls) ws) (clE s kd a b ls).2.2 ∧ FrT B tPK w w' := by
  obtain ⟨bx, hbx⟩ : ∃ bx, w.heap.size = bx := ⟨_, rfl⟩
  obtain ⟨W, hW⟩ : ∃ W, w.alloc (.cells #[.int .i64 kd, .int .i64 a, .int .i64 b, .slice ao ls.length cap] 76) = W := ⟨_, rfl⟩
  have HX : Hid (Blk W bx #[.int .i64 kd, .int .i64 a, .int .i64 b, .slice ao ls.length cap] 76) := by rw [← hW, ← hbx]; exact Blk.new _ _ _
  have Hb0 : Hid (Below w.heap.size w W) := by rw [← hW]; exact (Below.refl _ _).alloc (Nat.le_refl _) _
  have Hc := hide (says_any B q p u ws s kd a b ao cap ls W (hr.kept (unhide Hb0)) (hb.kept (unhide Hb0)) (fun w' hf => hk w' ((FrT.of_below (unhide Hb0)).trans hf)) hn)
  obtain ⟨s', hs'⟩ : ∃ r, (clE s kd a b ls).2.2 = r := ⟨_, rfl⟩
  obtain ⟨u', hu'⟩ : ∃ u', dkU (clY s kd a b ls) u = u' := ⟨_, rfl⟩
  obtain ⟨ws', hws'⟩ : ∃ ws', dkW (clY s kd a b ls) u (clX kd a b ls) ws = ws' := ⟨_, rfl⟩
  rw [hs', hu', hws'] at Hc ⊢
  have x0 := (unhide HX).cell 0
  have x1 := (unhide HX).cell 1
  have x2 := (unhide HX).cell 2
  have x3 := (unhide HX).cell 3
  simp only [List.getElem?_toArray, List.getElem?_cons_zero, List.getElem?_cons_succ] at x0 x1 x2 x3
  have HT := hide hB
  clear hr hb hk hs' hu' hws' hB
  go_enter Tryz.func56, Tryz.ntmps56
  go_wp2_with fail
  try rw [hW]
  try rw [hbx]
  clear hW hbx
  refine (unhide Hc).mono ?_
  rintro e w1 ⟨rfl, k1, k2, k3⟩
  have HF : Hid (Rec w1 B q s' ∧ LedW w1 B p u' ws' s' ∧ FrT B tPK w w1) := ⟨k1, k2, (FrT.of_below (unhide Hb0)).trans k3⟩
  have Ht1 := hide (unhide HT w1 ((FrT.of_below (unhide Hb0)).trans k3))
  clear k1 k2 k3 Hc x0 x1 x2 x3
  go_wp2_with fail
  refine (tells_any B B q p s' w1 (unhide HF).1 (unhide HF).2.1.led (unhide Ht1)).mono ?_
  rintro e w2 ⟨rfl, j1⟩
  have HF2 : Hid (Rec w2 B q s' ∧ LedW w2 B p u' ws' s' ∧ FrT B tPK w w2) := ⟨(unhide HF).1.kept j1, (unhide HF).2.1.kept j1, (unhide HF).2.2.then j1⟩
  clear j1
  go_wp2_with fail
  go_ret
  exact ⟨rfl, unhide HF2⟩

end Go.Proofs.YtdchbenfccofpaaGreatDoor
namespace Go.Proofs.YtdchbenfccofpaaGreatDoor
open Go.RowKit Db

/-- A step as it came in. -/
structure KAct where
  kd : Int
  a : Int
  b : Int
  ao : Option Addr
  cap : Nat
  ls : List Ln
def KAct.val (x : KAct) : Value := .agg #[.int .i64 x.kd, .int .i64 x.a, .int .i64 x.b, .slice x.ao x.ls.length x.cap]
/-- A book, its sectors used and what is not yet told; a step on it. -/
structure KS where
  s : Bk
  u : Nat
  ws : List Wr
def kstep (t : KS) (x : KAct) : KS := ⟨(clE t.s x.kd x.a x.b x.ls).2.2, dkU (clY t.s x.kd x.a x.b x.ls) t.u, dkW (clY t.s x.kd x.a x.b x.ls) t.u (clX x.kd x.a x.b x.ls) t.ws⟩
def krun (t : KS) (xs : List KAct) : KS := xs.foldl kstep t
theorem krun_step {t : KS} {xs : List KAct} {j : Nat} {x : KAct} (h : xs[j]? = some x) : krun t (xs.take (j + 1)) = kstep (krun t (xs.take j)) x := by
  unfold krun
  rw [List.take_add_one, h]
  simp
def rdL : List KAct := [⟨1, 0, 0, none, 0, []⟩, ⟨1, 0, 0, none, 0, []⟩, ⟨1, 1, 0, none, 0, []⟩, ⟨3, 1, 5, none, 2, [(2, 7), (3, -7)]⟩]
def rdS (j : Nat) : KS := krun ⟨bk0, 0, []⟩ (rdL.take j)
def rdy : KS := krun ⟨bk0, 0, []⟩ rdL
/-- A record and a book of one state. -/
structure KP (w : World) (B q p : Nat) (t : KS) : Prop where
  rec' : Rec w B q t.s
  led : LedW w B p t.u t.ws t.s
theorem KP.kept {w w' : World} {B q p : Nat} {t : KS} (h : KP w B q p t) (hb : Below w.heap.size w w') : KP w' B q p t := ⟨h.rec'.kept hb, h.led.kept hb⟩
theorem RecAt.base {w : World} {B B' p : Nat} {vp vc vt : Value} {tv : List (Tn × Value)} {s : Bk} (h : RecAt w B p vp vc vt tv s) (hB : B' ≤ B) : RecAt w B' p vp vc vt tv s :=
  ⟨h.blk, Nat.le_trans hB h.lo, ownsRow_base h.par (fun k hk => Nat.le_trans hB (ownsRow_tg h.par k hk).1), ownsRow_base h.clo (fun k hk => Nat.le_trans hB (ownsRow_tg h.clo k hk).1), ⟨ownsRow_base h.txs.own (fun k hk => Nat.le_trans hB (ownsRow_tg h.txs.own k hk).1), fun x hx => ownsRow_base (h.txs.lns x hx) (fun k hk => Nat.le_trans hB (ownsRow_tg (h.txs.lns x hx) k hk).1)⟩, h.jr, h.good⟩
theorem Rec.base {w : World} {B B' p : Nat} {s : Bk} (h : Rec w B p s) (hB : B' ≤ B) : Rec w B' p s := by
  obtain ⟨_, _, _, _, h⟩ := h; exact ⟨_, _, _, _, h.base hB⟩

set_option maxRecDepth 100000 in
set_option maxHeartbeats 4000000 in
theorem ready_any (w : World) (ht : Tab w) :
    Calls Tryz.prog 33 #[] w fun e w' => ∃ q p, e = .returned (.tuple #[.pointer (some ⟨p, 0, none⟩), .pointer (some ⟨q, 0, none⟩), .bool true]) ∧ KP w' w.heap.size q p rdy ∧ Below w.heap.size w w' := by
  have Ht := hide ht
  clear ht
  go_enter Tryz.func33, Tryz.ntmps33
  go_wp2_with fail
  refine (dayNew_any _).mono ?_
  rintro e w1 ⟨p, rfl, h1, hb1⟩
  have H1 := hide h1
  have Hb1 := hide hb1
  clear h1 hb1
  go_wp2_with fail
  refine (blank_any _).mono ?_
  rintro e w2 ⟨q, rfl, h2, hb2⟩
  have hs1 := (unhide Hb1).size
  have HP2 : Hid (KP w2 w.heap.size q p (rdS 0)) := ⟨h2.base hs1, (unhide H1).kept hb2⟩
  have Hb2 := hide ((unhide Hb1).then hb2)
  clear h2 hb2 H1
  go_wp2_with fail
  refine (tells_any w.heap.size w.heap.size q p bk0 w2 (unhide HP2).rec' (unhide HP2).led.led ((unhide Ht).below (unhide Hb2))).mono ?_
  rintro e w3 ⟨rfl, hb3⟩
  have HP3 := hide ((unhide HP2).kept hb3)
  have Hb3 := hide ((unhide Hb2).then hb3)
  have hs3 := (unhide Hb3).size
  clear hb3 HP2
  obtain ⟨gL, hgL⟩ : ∃ g, w3.heap.size = g := ⟨_, rfl⟩
  obtain ⟨w4, hw4⟩ : ∃ w4, w3.alloc (.cells #[.int .i64 2, .int .i64 7, .int .i64 3, .int .i64 (-7)] 89) = w4 := ⟨_, rfl⟩
  have HL4 : Hid (Blk w4 gL #[.int .i64 2, .int .i64 7, .int .i64 3, .int .i64 (-7)] 89) := by rw [← hw4, ← hgL]; exact Blk.new _ _ _
  have hs4 : w4.heap.size = gL + 1 := by rw [← hw4, ← hgL]; simp
  obtain ⟨w5, hw5⟩ : ∃ w5, w4.alloc (.cells #[.int .i64 1, .int .i64 0, .int .i64 0, .slice none 0 0, .int .i64 1, .int .i64 0, .int .i64 0, .slice none 0 0, .int .i64 1, .int .i64 1, .int .i64 0, .slice none 0 0, .int .i64 3, .int .i64 1, .int .i64 5, .slice (some ⟨gL, 0, none⟩) 2 2] 76) = w5 := ⟨_, rfl⟩
  have HA5 : Hid (Blk w5 (gL + 1) #[.int .i64 1, .int .i64 0, .int .i64 0, .slice none 0 0, .int .i64 1, .int .i64 0, .int .i64 0, .slice none 0 0, .int .i64 1, .int .i64 1, .int .i64 0, .slice none 0 0, .int .i64 3, .int .i64 1, .int .i64 5, .slice (some ⟨gL, 0, none⟩) 2 2] 76) := by rw [← hw5, ← hs4]; exact Blk.new _ _ _
  have hb34 : Below w3.heap.size w3 w4 := by rw [← hw4]; exact (Below.refl _ _).alloc (Nat.le_refl _) _
  have hb45 : Below w4.heap.size w4 w5 := by rw [← hw5]; exact (Below.refl _ _).alloc (Nat.le_refl _) _
  have HL5 := hide ((unhide HL4).kept hb45)
  have HP5 := hide (((unhide HP3).kept hb34).kept hb45)
  have Hb5 := hide (((unhide Hb3).then hb34).then hb45)
  clear hb34 hb45 HL4 HP3
  go_wp2_with fail
  try rw [hgL]
  try rw [hw4]
  try rw [hs4]
  try rw [hw5]
  clear hgL hw4 hw5 hs4 hs3
  go_loopg [5, 7] 4 (fun m vo vi wr => ∃ j : Nat, j ≤ 4 ∧ m = 4 - j ∧ vi = .int .i64 j ∧ vo = .bool true ∧ Hid (KP wr w.heap.size q p (rdS j)) ∧ Hid (Blk wr gL #[.int .i64 2, .int .i64 7, .int .i64 3, .int .i64 (-7)] 89) ∧ Hid (Blk wr (gL + 1) #[.int .i64 1, .int .i64 0, .int .i64 0, .slice none 0 0, .int .i64 1, .int .i64 0, .int .i64 0, .slice none 0 0, .int .i64 1, .int .i64 1, .int .i64 0, .slice none 0 0, .int .i64 3, .int .i64 1, .int .i64 5, .slice (some ⟨gL, 0, none⟩) 2 2] 76) ∧ Hid (Below w.heap.size w wr))
  case atStart => exact ⟨0, by omega, rfl, rfl, rfl, unhide HP5, unhide HL5, unhide HA5, unhide Hb5⟩
  case round =>
    obtain ⟨j, hj, rfl, rfl, rfl, HP, HL, HA, Hb⟩ := hrel
    by_cases hlt : j < 4
    · obtain ⟨kd, a, b, ao, cap, ls, d0, d1, d2, d3, hlk, hll, herr, hst⟩ : ∃ (kd a b : Int) (ao : Option Addr) (cap : Nat) (ls : List Ln), wr.cell? ⟨gL + 1, j * 4, none⟩ = some (.int .i64 kd) ∧ wr.cell? ⟨gL + 1, j * 4 + 1, none⟩ = some (.int .i64 a) ∧ wr.cell? ⟨gL + 1, j * 4 + 2, none⟩ = some (.int .i64 b) ∧ wr.cell? ⟨gL + 1, j * 4 + 3, none⟩ = some (.slice ao ls.length cap) ∧
          (∀ w', FrT w.heap.size tP wr w' → LinesAt w' (.slice ao ls.length cap) ls) ∧ ls.length ≤ 2 ∧ (clE (rdS j).s kd a b ls).2.1 = 0 ∧ rdS (j + 1) = kstep (rdS j) ⟨kd, a, b, ao, cap, ls⟩ := by
        have hc := fun i => (unhide HA).cell i
        have hln : ∀ w', FrT w.heap.size tP wr w' → LinesAt w' (.slice (some ⟨gL, 0, none⟩) 2 2) [(2, 7), (3, -7)] := fun w' hf => LinesAt.of_blk (cap := 2) (ls := [(2, 7), (3, -7)]) ((unhide HL).frT hf (by decide))
        rcases j with _ | _ | _ | _ | j
        · exact ⟨1, 0, 0, none, 0, [], by rw [hc]; rfl, by rw [hc]; rfl, by rw [hc]; rfl, by rw [hc]; rfl, fun w' _ => LinesAt.nil w', by simp, rfl, rfl⟩
        · exact ⟨1, 0, 0, none, 0, [], by rw [hc]; rfl, by rw [hc]; rfl, by rw [hc]; rfl, by rw [hc]; rfl, fun w' _ => LinesAt.nil w', by simp, rfl, rfl⟩
        · exact ⟨1, 1, 0, none, 0, [], by rw [hc]; rfl, by rw [hc]; rfl, by rw [hc]; rfl, by rw [hc]; rfl, fun w' _ => LinesAt.nil w', by simp, rfl, rfl⟩
        · exact ⟨3, 1, 5, some ⟨gL, 0, none⟩, 2, [(2, 7), (3, -7)], by rw [hc]; rfl, by rw [hc]; rfl, by rw [hc]; rfl, by rw [hc]; rfl, hln, by simp, rfl, rfl⟩
        · omega
      have hsz := (unhide Hb).size
      obtain ⟨t, ht⟩ : ∃ t, rdS j = t := ⟨_, rfl⟩
      rw [ht] at HP herr hst
      have Hst := hide hst
      have Hlk := hide hlk
      have Hc := hide (calledW_any w.heap.size p t.u t.ws t.s kd a b ao cap ls wr (unhide HP).led (hlk wr (FrT.refl _ _ _)) (by omega))
      have Hy := hide (fun (wx : World) (h : Rec wx w.heap.size q t.s) (hl : LinesAt wx (.slice ao ls.length cap) ls) => yes_any w.heap.size q t.s kd a b ao cap ls wx h hl herr)
      rw [herr] at Hc
      obtain ⟨x, hx⟩ : ∃ x, (clE t.s kd a b ls).1 = x := ⟨_, rfl⟩
      obtain ⟨s', hs'⟩ : ∃ x, (clE t.s kd a b ls).2.2 = x := ⟨_, rfl⟩
      obtain ⟨u', hu'⟩ : ∃ u', dkU (clY t.s kd a b ls) t.u = u' := ⟨_, rfl⟩
      obtain ⟨ws', hws'⟩ : ∃ ws', dkW (clY t.s kd a b ls) t.u (clX kd a b ls) t.ws = ws' := ⟨_, rfl⟩
      have Hst2 : Hid (rdS (j + 1) = ⟨s', u', ws'⟩) := by show _ = _; rw [hst, ← hs', ← hu', ← hws']; rfl
      rw [hx, hs', hu', hws'] at Hc
      rw [hx, hs'] at Hy
      have jlt : (j : Int) < 4 := by omega
      clear herr hst hlk hx hs' hu' hws' ht hll
      go_wp2_with fail
      refine (unhide Hc).mono ?_
      rintro e w6 ⟨rfl, k1, k2⟩
      have K1 := hide k1
      have K2 := hide k2
      have HA6 := hide ((unhide HA).frT k2 (by decide))
      have Hyy := hide (unhide Hy w6 ((unhide HP).rec'.frP k2) (unhide Hlk w6 k2))
      have e0 : w6.cell? ⟨gL + 1, j * 4, none⟩ = some (.int .i64 kd) := by rw [(unhide HA6).cell, ← (unhide HA).cell]; exact d0
      have e1 : w6.cell? ⟨gL + 1, j * 4 + 1, none⟩ = some (.int .i64 a) := by rw [(unhide HA6).cell, ← (unhide HA).cell]; exact d1
      have e2 : w6.cell? ⟨gL + 1, j * 4 + 2, none⟩ = some (.int .i64 b) := by rw [(unhide HA6).cell, ← (unhide HA).cell]; exact d2
      have e3 : w6.cell? ⟨gL + 1, j * 4 + 3, none⟩ = some (.slice ao ls.length cap) := by rw [(unhide HA6).cell, ← (unhide HA).cell]; exact d3
      clear k1 k2 d0 d1 d2 d3 Hc Hy
      go_wp2_with fail
      refine (unhide Hyy).mono ?_
      rintro e w7 ⟨rfl, j1, j2⟩
      have HP7 : Hid (KP w7 w.heap.size q p ⟨s', u', ws'⟩) := ⟨j1, (unhide K1).frK j2⟩
      have Hb6 : Hid (Below w.heap.size w w6) := (unhide Hb).trans ((unhide K2).below hsz)
      have hsz6 := (unhide Hb6).size
      have Hb7 : Hid (Below w.heap.size w w7) := (unhide Hb6).trans (j2.below hsz6)
      have HL7 := hide (((unhide HL).frT (unhide K2) (by decide)).frT j2 (by decide))
      have HA7 := hide ((unhide HA6).frT j2 (by decide))
      clear j1 j2 Hyy e0 e1 e2 e3 K1 K2
      go_wp2_with fail
      refine (tells_any w.heap.size w.heap.size q p s' w7 (unhide HP7).rec' (unhide HP7).led.led ((unhide Ht).below (unhide Hb7))).mono ?_
      rintro e w8 ⟨rfl, hb8⟩
      have HP8 : Hid (KP w8 w.heap.size q p (rdS (j + 1))) := by show KP _ _ _ _ _; rw [unhide Hst2]; exact (unhide HP7).kept hb8
      have HL8 := hide ((unhide HL7).kept hb8)
      have HA8 := hide ((unhide HA7).kept hb8)
      have Hb8 := hide ((unhide Hb7).then hb8)
      clear hb8
      go_wp2_with fail
      go_roundg (4 - (j + 1))
      case measure => omega
      case rel => exact ⟨j + 1, by omega, rfl, by go_num, rfl, unhide HP8, unhide HL8, unhide HA8, unhide Hb8⟩
    · obtain rfl : j = 4 := by omega
      have HPF : Hid (KP wr w.heap.size q p rdy) := unhide HP
      go_wp2_with fail
      go_ret3
      exact ⟨q, p, rfl, unhide HPF, unhide Hb⟩

/-- Steps that came in, below B. -/
structure KOk (w : World) (B : Nat) (x : KAct) : Prop where
  at' : LinesAt w (.slice x.ao x.ls.length x.cap) x.ls
  lo : x.ls = [] ∨ ∀ k, (Value.slice x.ao x.ls.length x.cap).ownBlock = some k → k < B
  few : x.ls.length ≤ 8796093022000
structure KActsAt (w : World) (B : Nat) (v : Value) (xs : List KAct) : Prop where
  form : ∃ ao cap, v = .slice ao xs.length cap ∧ (xs = [] ∨ ∃ b off, ao = some ⟨b, off, none⟩ ∧ b < B ∧ ∀ (i : Nat) (x : KAct), xs[i]? = some x →
    w.cell? ⟨b, off + i * 4, none⟩ = some (.int .i64 x.kd) ∧ w.cell? ⟨b, off + i * 4 + 1, none⟩ = some (.int .i64 x.a) ∧ w.cell? ⟨b, off + i * 4 + 2, none⟩ = some (.int .i64 x.b) ∧
    w.cell? ⟨b, off + i * 4 + 3, none⟩ = some (.slice x.ao x.ls.length x.cap))
  oks : ∀ x ∈ xs, KOk w B x
theorem LinesAt.belowK {w w' : World} {B : Nat} {v : Value} {ls : List Ln} (h : LinesAt w v ls) (hb : Below B w w') (hg : ls = [] ∨ ∀ k, v.ownBlock = some k → k < B) : LinesAt w' v ls := by
  obtain ⟨ao, cap, rfl, hr⟩ := h
  refine ⟨ao, cap, rfl, ?_⟩
  rcases hg with hg | hg
  · exact .inl hg
  rcases hr with hr | ⟨b, off, rfl, hlt, hc⟩
  · exact .inl hr
  · refine .inr ⟨b, off, rfl, Nat.lt_of_lt_of_le hlt hb.size, fun i l hl => ?_⟩
    rw [hb.cell (p := ⟨b, off + i * 2, none⟩) (hg b rfl), hb.cell (p := ⟨b, off + i * 2 + 1, none⟩) (hg b rfl)]
    exact hc i l hl
theorem KActsAt.below {w w' : World} {B : Nat} {v : Value} {xs : List KAct} (h : KActsAt w B v xs) (hb : Below B w w') : KActsAt w' B v xs := by
  obtain ⟨⟨ao, cap, rfl, hr⟩, ho⟩ := h
  refine ⟨⟨ao, cap, rfl, ?_⟩, fun x hx => ⟨(ho x hx).at'.belowK hb (ho x hx).lo, (ho x hx).lo, (ho x hx).few⟩⟩
  rcases hr with hr | ⟨b, off, rfl, hlt, hc⟩
  · exact .inl hr
  · refine .inr ⟨b, off, rfl, hlt, fun i x hx => ?_⟩
    have h1 : ∀ j, w'.cell? ⟨b, j, none⟩ = w.cell? ⟨b, j, none⟩ := fun j => hb.cell (p := ⟨b, j, none⟩) hlt
    rw [h1, h1, h1, h1]
    exact hc i x hx

set_option maxRecDepth 100000 in
set_option maxHeartbeats 4000000 in
theorem kplayed_any (v : Value) (xs : List KAct) (w : World) (h : KActsAt w w.heap.size v xs) (hlen : xs.length ≤ 9223372036854775800) (ht : Tab w) :
    Calls Tryz.prog 25 #[v] w fun e w' => ∃ q p, e = .returned (.tuple #[.pointer (some ⟨p, 0, none⟩), .pointer (some ⟨q, 0, none⟩), .bool true]) ∧ KP w' w.heap.size q p (krun rdy xs) ∧ Below w.heap.size w w' := by
  obtain ⟨ao, cap, rfl⟩ : ∃ ao cap, v = .slice ao xs.length cap := by obtain ⟨⟨ao, cap, rfl, _⟩, _⟩ := h; exact ⟨ao, cap, rfl⟩
  have H := hide h
  have Ht := hide ht
  clear h ht
  go_enter Tryz.func25, Tryz.ntmps25
  go_wp2_with fail
  refine (ready_any _ (unhide Ht)).mono ?_
  rintro e w1 ⟨q, p, rfl, h1, hb1⟩
  have H1 := hide h1
  have Hb1 := hide hb1
  clear h1 hb1
  go_wp2_with fail
  go_loopg [7, 8] xs.length (fun m vo i wr => ∃ j : Nat, j ≤ xs.length ∧ m = xs.length - j ∧ i = .int .i64 j ∧ vo = .bool true ∧ Hid (KP wr w.heap.size q p (krun rdy (xs.take j))) ∧ Hid (Below w.heap.size w wr))
  case atStart => exact ⟨0, by omega, rfl, rfl, rfl, unhide H1, unhide Hb1⟩
  case round =>
    obtain ⟨j, hj, rfl, rfl, rfl, HP, Hb⟩ := hrel
    by_cases hlt : j < xs.length
    · obtain ⟨x, hx⟩ : ∃ x, xs[j]? = some x := ⟨xs[j], List.getElem?_eq_getElem hlt⟩
      have hat := (unhide H).below (unhide Hb)
      have Hst := hide (krun_step (t := rdy) hx)
      have hok := hat.oks x (List.mem_of_getElem? hx)
      obtain ⟨⟨ao', cap', e1, hr⟩, _⟩ := hat
      simp only [Value.slice.injEq, true_and] at e1
      obtain ⟨rfl, rfl⟩ := e1
      have hr2 := hr.resolve_left (by rintro rfl; simp at hx)
      obtain ⟨b, off, rfl, hbl, hc⟩ := hr2
      obtain ⟨d0, d1, d2, d3⟩ := hc j x hx
      have hjj : (j : Int) < (xs.length : Int) := by omega
      have hsz := (unhide Hb).size
      obtain ⟨t, ht⟩ : ∃ t, krun rdy (xs.take j) = t := ⟨_, rfl⟩
      rw [ht] at HP Hst
      obtain ⟨kd, xa, xb, xao, xcap, ls⟩ := x
      simp only at d0 d1 d2 d3 hok
      have Hdo := hide (kdo_any w.heap.size q p t.u t.ws t.s kd xa xb xao xcap ls wr (unhide HP).rec' (unhide HP).led (fun w' hf => hok.at'.belowK (hf.below hsz) hok.lo) hok.few (fun w' hf => (unhide Ht).below ((unhide Hb).trans (hf.below hsz))))
      clear hr hc hx hok ht
      go_wp2_with fail
      refine (unhide Hdo).mono ?_
      rintro e w2 ⟨rfl, h1, h2, h3⟩
      have HP2 : Hid (KP w2 w.heap.size q p (krun rdy (xs.take (j + 1)))) := by show KP _ _ _ _ _; rw [unhide Hst]; exact ⟨h1, h2⟩
      have Hb2 : Hid (Below w.heap.size w w2) := (unhide Hb).trans (h3.below hsz)
      clear h1 h2 h3 Hdo
      go_wp2_with fail
      go_roundg (xs.length - (j + 1))
      case measure => omega
      case rel => exact ⟨j + 1, by omega, rfl, by go_num, rfl, unhide HP2, unhide Hb2⟩
    · obtain rfl : j = xs.length := by omega
      have HP2 : Hid (KP wr w.heap.size q p (krun rdy xs)) := by have := unhide HP; rw [List.take_length] at this; exact this
      go_wp2_with fail
      go_ret3
      exact ⟨q, p, rfl, unhide HP2, unhide Hb⟩

end Go.Proofs.YtdchbenfccofpaaGreatDoor
namespace Go.Proofs.YtdchbenfccofpaaGreatDoor
open Go.RowKit Db Go.ChangeShapes Go.WideShapes Go.ChangeAt Go.WideMaps Go.WideElems Go.Deep

theorem cInt : Tryz.prog.cellsOf 3 = 1 := by kernel_rfl
theorem cStr : Tryz.prog.cellsOf 9 = 1 := by kernel_rfl
theorem cLns : Tryz.prog.cellsOf 31 = 1 := by kernel_rfl
theorem cLine : Tryz.prog.cellsOf 89 = 2 := by kernel_rfl
theorem bLine : Tryz.prog.bytesOf 89 = 16 := by kernel_rfl
theorem reach_eq : reachBytes = 140737488351232 := rfl
theorem blk_lt {w : World} {a : Addr} {v : Value} (h : w.cell? a = some v) : a.block < w.heap.size := World.block_lt_of_cell? w a h
def intV : Value → Int
  | .int _ n => n
  | _ => 0

section
variable {H : Type} {enc : TypeId × Value → H} {W : World} {fuel : Nat} {x : DataW H × List MemPlace}
theorem open_lines {v : Value} (h : DataW.trod enc Tryz.prog W 0 (fun _ => true) true fuel 31 [v] = some x) :
    ∃ ao cap ls, v = .slice ao ls.length cap ∧ LinesAt W v ls ∧ (ls = [] ∨ ∀ k, v.ownBlock = some k → k < W.heap.size) ∧ (ls = [] ∨ ∃ el sp, x.1 = .slice el sp ∧ el.length = ls.length) := by
  rcases open_slice_pairs Tryz.underlying31 Tryz.underlying89 cLine rfl rfl cInt cInt h with ⟨hc, hx⟩ | ⟨a, len, cap, m, n, V0, V1, D0, D1, P0, P1, hc, _, hl, hm, hmm, hx, hcell⟩
  · simp only [List.cons.injEq, and_true] at hc
    subst hc
    exact ⟨none, 0, [], rfl, ⟨none, 0, rfl, .inl rfl⟩, .inl rfl, .inl rfl⟩
  · simp only [List.cons.injEq, and_true] at hc
    subst hc
    simp only [if_true] at hmm
    by_cases h0 : len = 0
    · subst h0
      exact ⟨some a, cap, [], rfl, ⟨some a, cap, rfl, .inl rfl⟩, .inl rfl, .inl rfl⟩
    · obtain ⟨b, off, spot⟩ := a
      have hspot : spot = none := by simpa [Addr.add] using World.cell?_spot (hcell 0 (by omega)).1
      subst hspot
      have hV : ∀ i, i < m → V0 i = .int .i64 (intV (V0 i)) ∧ V1 i = .int .i64 (intV (V1 i)) := by
        intro i hi
        obtain ⟨_, _, t0, t1⟩ := hcell i hi
        obtain ⟨k0, e0, _⟩ := DataW.trod_int Tryz.underlying3 t0
        obtain ⟨k1, e1, _⟩ := DataW.trod_int Tryz.underlying3 t1
        simp only [List.cons.injEq, and_true] at e0 e1
        rw [e0, e1]
        exact ⟨rfl, rfl⟩
      have hbl : b < W.heap.size := by
        have := blk_lt (hcell 0 (by omega)).1
        simpa [Addr.add] using this
      refine ⟨some ⟨b, off, none⟩, cap, (List.range len).map fun i => (intV (V0 i), intV (V1 i)), by simp, ⟨some ⟨b, off, none⟩, cap, by simp, .inr ⟨b, off, rfl, hbl, fun i l hl => ?_⟩⟩, .inr ?_, .inr ⟨_, _, by rw [hx], by simp⟩⟩
      · rw [List.getElem?_map] at hl
        have hi : i < len := by
          rcases Nat.lt_or_ge i len with hi | hi
          · exact hi
          · rw [List.getElem?_eq_none (by simpa using hi)] at hl; simp at hl
        rw [List.getElem?_range hi] at hl
        simp only [Option.map_some, Option.some.injEq] at hl
        subst hl
        have hc := hcell i (by omega)
        rw [Addr.add_lit, Addr.add_lit] at hc
        have hv := hV i (by omega)
        simp only
        rw [← hv.1, ← hv.2]
        exact ⟨hc.1, by rw [← Nat.add_assoc] at hc; exact hc.2.1⟩
      · intro k hk
        simp only [Value.ownBlock, Option.some.injEq] at hk
        omega

theorem weightsAll_mem {P : Program} {e : TypeId} : ∀ {l : List (DataW H)} {d : DataW H}, d ∈ l → ∀ n ∈ d.weights P e, n ∈ DataW.weightsAll P e l
  | d' :: r, d, hd, n, hn => by
    simp only [DataW.weightsAll, List.mem_append]
    rcases List.mem_cons.1 hd with rfl | h
    · exact Or.inl hn
    · exact Or.inr (weightsAll_mem h n hn)
end
end Go.Proofs.YtdchbenfccofpaaGreatDoor
namespace Go.Proofs.YtdchbenfccofpaaGreatDoor
open Go.RowKit Db Go.ChangeShapes Go.WideShapes Go.ChangeAt Go.WideMaps Go.WideElems Go.Deep

theorem cKAct : Tryz.prog.cellsOf 76 = 4 := by kernel_rfl
theorem bKAct : Tryz.prog.bytesOf 76 = 48 := by kernel_rfl

section
variable {H : Type} {enc : TypeId × Value → H} {W : World} {fuel : Nat} {x : DataW H × List MemPlace}
instance : Inhabited KAct := ⟨⟨0, 0, 0, none, 0, []⟩⟩
set_option maxRecDepth 100000 in
/-- One step, from its six cells. -/
theorem kopen_act {cs : List Value} (h : DataW.trod enc Tryz.prog W 0 (fun _ => true) true fuel 76 cs = some x) (hcs : cs.length = 4) (hsz : ∀ n ∈ x.1.weights Tryz.prog 76, n ≤ reachBytes) :
    ∃ y : KAct, cs = [.int .i64 y.kd, .int .i64 y.a, .int .i64 y.b, .slice y.ao y.ls.length y.cap] ∧ KOk W W.heap.size y := by
  obtain ⟨xs, n, rfl, rfl, _, hxl, hf⟩ := DataW.trod_struct Tryz.underlying76 h
  match cs, hcs, xs, hxl with
  | [v0, v1, v2, v3], _, [y0, y1, y2, y3], _ =>
    have g0 := hf 0 _ rfl
    have g1 := hf 1 _ rfl
    have g2 := hf 2 _ rfl
    have g3 := hf 3 _ rfl
    simp [cInt, cLns] at g0 g1 g2 g3
    obtain ⟨k0, e0, _⟩ := DataW.trod_int Tryz.underlying3 g0
    obtain ⟨k1, e1, _⟩ := DataW.trod_int Tryz.underlying3 g1
    obtain ⟨k2, e2, _⟩ := DataW.trod_int Tryz.underlying3 g2
    obtain ⟨ao, cap, ls, e3, hL, hlo, hw⟩ := open_lines g3
    simp only [List.cons.injEq, and_true] at e0 e1 e2
    subst e0 e1 e2 e3
    refine ⟨⟨k0, k1, k2, ao, cap, ls⟩, rfl, hL, hlo, ?_⟩
    rcases hw with rfl | ⟨el, sp, hx3, hel⟩
    · simp
    · have := hsz ((el.length + sp.length) * 16) (by
        simp only [List.map_cons, List.map_nil, DataW.weights, Tryz.underlying76]
        simp [DataW.weightsEach, hx3, DataW.weights, Tryz.underlying31, bLine])
      rw [reach_eq] at this
      simp only
      omega

/-- All steps. -/
theorem kopen_acts {v : Value} {ts : List TypeId} {ds : List (DataW H)} (h : DataW.trod enc Tryz.prog W 0 (fun _ => true) true fuel 50 [v] = some x) (hsz : (DataW.weightsEach Tryz.prog ts ds).all (· ≤ reachBytes) = true) {j : Nat} (hj : ts[j]? = some 50) (hd : ds[j]? = some x.1) :
    ∃ ys : List KAct, KActsAt W W.heap.size v ys ∧ ys.length ≤ 9223372036854775800 := by
  rcases open_slice Tryz.underlying50 h with ⟨hc, hx⟩ | ⟨a, len, cap, m, n, D, Pl, hc, _, hl, hm, hmm, hx, hel⟩
  · simp only [List.cons.injEq, and_true] at hc
    subst hc
    exact ⟨[], ⟨⟨none, 0, rfl, .inl rfl⟩, by simp⟩, by simp⟩
  · simp only [List.cons.injEq, and_true] at hc
    subst hc
    simp only [if_true] at hmm
    subst hx
    have hbig := sized_slice hsz hj hd Tryz.underlying50
    rw [bKAct, reach_eq] at hbig
    simp only [List.length_map, List.length_range] at hbig
    by_cases h0 : len = 0
    · subst h0
      exact ⟨[], ⟨⟨some a, cap, rfl, .inl rfl⟩, by simp⟩, by simp⟩
    · obtain ⟨b, off, spot⟩ := a
      have each : ∀ i, i < len → ∃ y : KAct, (∀ (f : Nat) (u : Value), [Value.int .i64 y.kd, .int .i64 y.a, .int .i64 y.b, .slice y.ao y.ls.length y.cap][f]? = some u → W.cell? ((⟨b, off, spot⟩ : Addr).add (i * 4 + f)) = some u) ∧ KOk W W.heap.size y := by
        intro i hi
        obtain ⟨cs', h1, h2⟩ := hel i (by omega)
        rw [cKAct] at h1
        obtain ⟨_, hlen, hcell⟩ := World.cells?_some h1
        obtain ⟨y, rfl, hy⟩ := kopen_act h2 hlen (fun k hk => by
          refine of_decide_eq_true (List.all_eq_true.1 hsz _ (DataW.weights_mem_each hj hd _ ?_))
          simp only [DataW.weights, Tryz.underlying50, List.mem_cons, List.mem_append]
          exact Or.inr (Or.inl (weightsAll_mem (List.mem_map.2 ⟨i, List.mem_range.2 hi, rfl⟩) _ hk)))
        refine ⟨y, fun f u hu => ?_, hy⟩
        have hf : f < 4 := by have := (List.getElem?_eq_some_iff.1 hu).1; simpa using this
        have he := hcell f hf
        rw [hu, add_add] at he
        exact he
      have hspot : spot = none := by
        obtain ⟨y, hy, _⟩ := each 0 (by omega)
        have := World.cell?_spot (hy 0 _ rfl)
        simpa [Addr.add] using this
      subst hspot
      have hbl : b < W.heap.size := by
        obtain ⟨y, hy, _⟩ := each 0 (by omega)
        have := blk_lt (hy 0 _ rfl)
        simpa [Addr.add] using this
      obtain ⟨Y, hY⟩ := choose_lt each
      refine ⟨(List.range len).map Y, ⟨⟨some ⟨b, off, none⟩, cap, by simp, .inr ⟨b, off, rfl, hbl, fun i y hy => ?_⟩⟩, fun y hy => ?_⟩, by simp; omega⟩
      · rw [List.getElem?_map] at hy
        have hi : i < len := by
          rcases Nat.lt_or_ge i len with hi | hi
          · exact hi
          · rw [List.getElem?_eq_none (by simpa using hi)] at hy; simp at hy
        rw [List.getElem?_range hi] at hy
        simp only [Option.map_some, Option.some.injEq] at hy
        subst hy
        have hc := (hY i hi).1
        refine ⟨?_, ?_, ?_, ?_⟩
        · have := hc 0 _ rfl; rw [Addr.add_lit] at this; simpa [Nat.add_assoc] using this
        · have := hc 1 _ rfl; rw [Addr.add_lit] at this; simpa [Nat.add_assoc] using this
        · have := hc 2 _ rfl; rw [Addr.add_lit] at this; simpa [Nat.add_assoc] using this
        · have := hc 3 _ rfl; rw [Addr.add_lit] at this; simpa [Nat.add_assoc] using this
      · obtain ⟨i, hi, rfl⟩ := List.mem_map.1 hy
        exact (hY i (List.mem_range.1 hi)).2
end
end Go.Proofs.YtdchbenfccofpaaGreatDoor
namespace Go.Proofs.YtdchbenfccofpaaGreatDoor
open Go.RowKit Db

theorem cellsW_length (l : List Wr) : (cellsW l).length = l.length * 2 := by
  induction l with
  | nil => rfl
  | cons a r ih => unfold cellsW at ih ⊢; simp at ih ⊢; omega
theorem cellsW_one (l : List Wr) : ∀ u ∈ cellsW l, u.oneCell' = true := by
  intro u hu
  unfold cellsW at hu
  rw [List.mem_flatMap] at hu
  obtain ⟨a, _, hu⟩ := hu
  simp at hu
  rcases hu with rfl | rfl <;> rfl
theorem LedAt.told {w w5 : World} {B p u : Nat} {va vt vw : Value} {tv : List (Tn × Value)} {ws : List Wr} {s : Bk} (h : LedAt w B p va vt tv ⟨u, vw, ws⟩ s) (hb : Below w.heap.size w w5) :
    LedAt (w5.setCell ⟨p, 3, none⟩ (.slice none 0 0)) B p va vt tv ⟨u, .slice none 0 0, []⟩ s ∧ FrT B [102] w (w5.setCell ⟨p, 3, none⟩ (.slice none 0 0)) := by
  have h5 := h.kept hb
  have f2 : FrT B [102] w5 (w5.setCell ⟨p, 3, none⟩ (.slice none 0 0)) := (FrT.refl _ _ w5).setCell (T := 102) (by simp) h5.blk.tg h5.lo _
  refine ⟨⟨?_, h5.lo, ownsRow_frT h5.acs f2 (by decide), h5.txs.frT f2 (by decide) (by decide), h5.jr, h5.good, World.ownsRow_nil _ _ _ _, Nat.zero_le _, h5.dcnt⟩, (FrT.of_below hb).trans f2⟩
  have := h5.blk.set 3 (.slice none 0 0)
  simpa using this

set_option maxRecDepth 100000 in
set_option maxHeartbeats 2000000 in
theorem diskWrites_any (B p u : Nat) (ws : List Wr) (s : Bk) (w : World) (h : LedW w B p u ws s) :
    Calls Tryz.prog 65 #[.pointer (some ⟨p, 2, none⟩)] w fun e w' => (∃ v, e = .returned v ∧ w'.ownsRow w.heap.size 153 2 v ws.length (cellsW ws)) ∧ LedW w' B p u [] s ∧ FrT B [102] w w' := by
  obtain ⟨ii, hi, hz0, hz1, hz2⟩ := info_parts info_write
  obtain ⟨va, vt, tv, vw, h⟩ := h
  have hwl := h.dlen
  have hcn := h.dcnt
  have hbd := cnt_bound h.good
  have c3 := h.blk.cell 3
  have z3 := h.blk.frozen 3
  have lq := h.blk.lt
  have hlo := h.lo
  simp only [List.getElem?_toArray, List.getElem?_cons_zero, List.getElem?_cons_succ] at c3
  simp only at hwl hcn
  rcases h.dsk.2 with ⟨hvw, hn⟩ | ⟨g, cap, cur, hvw, hBg, _⟩
  · simp only at hvw hn
    subst hvw
    obtain rfl : ws = [] := List.length_eq_zero_iff.1 hn
    have H := hide h
    clear h hn
    go_enter Tryz.func65, Tryz.ntmps65
    go_wp2_with (first
      | (at_builtin; refine wpList_append_own_none rfl (.tmp 4) (.tmp 8) 72 rfl w.heap.size 153 ii 2 Tryz.underlying72 hi (.slice none 0 0) 0 [] rfl (World.ownsRow_nil _ _ _ _) rfl ?_))
    go_ret
    have hfin := (unhide H).told (Below.refl _ w)
    exact ⟨⟨_, rfl, World.ownsRow_nil _ _ _ _⟩, ⟨_, _, _, _, hfin.1⟩, hfin.2⟩
  · simp only at hvw
    subst hvw
    have H := hide h
    have Hcs : Hid (∀ j x, (cellsW ws)[j]? = some x → w.cell? ((⟨g, 0, none⟩ : Addr).add j) = some x) := by
      intro j x hj
      rw [Addr.add_lit, Nat.zero_add]
      exact ownsRow_cell h.dsk hj
    clear h
    go_enter Tryz.func65, Tryz.ntmps65
    go_wp2_with (first
      | (at_builtin; refine wpList_append_own _ rfl (.tmp 4) (.tmp 8) 72 rfl w.heap.size 153 ii (.agg #[.int .i64 0, .string ⟨#[]⟩]) 2 24 Tryz.underlying72 hi hz0 hz1 hz2 rfl (by decide) (.slice none 0 0) 0 [] rfl (World.ownsRow_nil _ _ _ _) ⟨g, 0, none⟩ ws.length cap (cellsW ws) rfl (cellsW_length ws) (unhide Hcs) (cellsW_one ws) (by unfold maxLen; omega) (by omega) (Nat.le_refl _) ?_; intro vk w3 hown3 hgr3 _; have hb3 := below_of_none hgr3; simp only [Nat.zero_add, List.nil_append] at hown3; obtain ⟨ak, ck, rfl⟩ := ownsRow_form hown3; have H3 := hide ((unhide H).kept hb3); have c5 := (unhide H3).blk.cell 3; have z5 := (unhide H3).blk.frozen 3; have l5 := (unhide H3).blk.lt; simp only [List.getElem?_toArray, List.getElem?_cons_zero, List.getElem?_cons_succ] at c5; have Hown3 := hide hown3; have Hb3 := hide hb3; clear hown3 hgr3 hb3))
    go_ret
    have hfin := (unhide H).told (unhide Hb3)
    exact ⟨⟨_, rfl, ownsRow_frT (unhide Hown3) ((FrT.refl B [102] w3).setCell (p := ⟨p, 3, none⟩) (T := 102) (by simp) (unhide H3).blk.tg hlo _) (by decide)⟩, ⟨_, _, _, _, hfin.1⟩, hfin.2⟩

set_option maxRecDepth 100000 in
set_option maxHeartbeats 1000000 in
theorem dayWrites_any (B p u : Nat) (ws : List Wr) (s : Bk) (w : World) (h : LedW w B p u ws s) :
    Calls Tryz.prog 34 #[.pointer (some ⟨p, 0, none⟩)] w fun e w' => (∃ ao cap, e = .returned (.slice ao ws.length cap) ∧ w'.ownsRow w.heap.size 153 2 (.slice ao ws.length cap) ws.length (cellsW ws)) ∧ LedW w' B p u [] s ∧ FrT B [102] w w' := by
  have Hc := hide (diskWrites_any B p u ws s w h)
  clear h
  go_enter Tryz.func34, Tryz.ntmps34
  go_wp2_with fail
  refine (unhide Hc).mono ?_
  rintro e w1 ⟨⟨v, rfl, k1⟩, k2, k3⟩
  obtain ⟨ao, cap, rfl⟩ := ownsRow_form k1
  have HF : Hid (w1.ownsRow w.heap.size 153 2 (.slice ao ws.length cap) ws.length (cellsW ws) ∧ LedW w1 B p u [] s ∧ FrT B [102] w w1) := ⟨k1, k2, k3⟩
  clear k1 k2 k3 Hc
  go_wp2_with fail
  go_ret
  exact ⟨⟨_, _, rfl, (unhide HF).1⟩, (unhide HF).2⟩

end Go.Proofs.YtdchbenfccofpaaGreatDoor
namespace Go.Proofs.YtdchbenfccofpaaGreatDoor
open Go.RowKit Db

theorem Rec.frB {w w' : World} {B B' q : Nat} {s : Bk} (h : Rec w B q s) (hf : FrT B' [102] w w') : Rec w' B q s := by
  obtain ⟨vp, vc, vt, tv, h⟩ := h
  exact ⟨_, _, _, _, h.frT hf (by decide) (by decide)⟩

set_option maxRecDepth 100000 in
set_option maxHeartbeats 2000000 in
theorem quiet_any (B q p u : Nat) (ws : List Wr) (s : Bk) (w : World) (hr : Rec w B q s) (hb : LedW w B p u ws s) (hT : ∀ w', FrT B tP w w' → Tab w') :
    Calls Tryz.prog 37 #[.pointer (some ⟨q, 0, none⟩), .pointer (some ⟨p, 0, none⟩)] w fun e w' => e = .returned (.bool (decide (ws.length = 0))) ∧ Rec w' B q s ∧ LedW w' B p u [] s ∧ FrT B tP w w' := by
  have Hr := hide hr
  have Hw := hide (dayWrites_any B p u ws s w hb)
  have HT := hide hT
  obtain ⟨y, hy, e1⟩ : ∃ y, decide (ws.length = 0) = y ∧ ((ws.length : Int) == 0) = y := ⟨_, rfl, by
    by_cases h : ws.length = 0
    · rw [h]; rfl
    · rw [decide_eq_false h, beq_eq_false_iff_ne]; omega⟩
  rw [hy]
  clear hr hb hT hy
  cases y
  all_goals
    go_enter Tryz.func37, Tryz.ntmps37
    go_wp2_with fail
    refine (unhide Hw).mono ?_
    rintro e w1 ⟨⟨ao, cap, rfl, k1⟩, k2, k3⟩
    have H1 : Hid (Rec w1 B q s ∧ LedW w1 B p u [] s ∧ FrT B tP w w1) := ⟨(unhide Hr).frB k3, k2, k3.mono (by simp [tP])⟩
    clear k1 k2 k3 Hw
    go_wp2_with fail
    refine (tells_any B B q p s w1 (unhide H1).1 (unhide H1).2.1.led (unhide HT _ (unhide H1).2.2)).mono ?_
    rintro e w2 ⟨rfl, hb2⟩
    have H2 : Hid (Rec w2 B q s ∧ LedW w2 B p u [] s ∧ FrT B tP w w2) := ⟨(unhide H1).1.kept hb2, (unhide H1).2.1.kept hb2, (unhide H1).2.2.then hb2⟩
    clear hb2
    go_wp2_with fail
    refine (dayWrites_any B p u [] s w2 (unhide H2).2.1).mono ?_
    rintro e w3 ⟨⟨ao3, cap3, rfl, k1⟩, k2, k3⟩
    have H3 : Hid (Rec w3 B q s ∧ LedW w3 B p u [] s ∧ FrT B tP w w3) := ⟨(unhide H2).1.frB k3, k2, (unhide H2).2.2.trans (k3.mono (by simp [tP]))⟩
    clear k1 k2 k3
    go_wp2_with fail
    go_ret
    exact ⟨rfl, unhide H3⟩

end Go.Proofs.YtdchbenfccofpaaGreatDoor
namespace Go.Proofs.YtdchbenfccofpaaGreatDoor
open Go.RowKit Db

def tot (l : List (List UInt8)) : Nat := (l.map List.length).sum
theorem flat_len (sep : UInt8) (l : List (List UInt8)) : (l.flatMap fun y => sep :: y).length = tot l + l.length := by
  induction l with
  | nil => rfl
  | cons x r ih => unfold tot at ih ⊢; simp only [List.flatMap_cons, List.length_append, List.length_cons, ih, List.map_cons, List.sum_cons]; omega
theorem jn_len (sep : UInt8) (l : List (List UInt8)) : (jn sep l).length = tot l + (l.length - 1) := by
  cases l with
  | nil => rfl
  | cons x r => unfold jn tot; simp only [List.length_append, flat_len, List.map_cons, List.sum_cons, List.length_cons]; unfold tot; omega
theorem tot_set (l : List (List UInt8)) : ∀ (k : Nat) (x y : List UInt8), l[k]? = some x → y.length = x.length + 1 → tot (l.set k y) = tot l + 1 := by
  induction l with
  | nil => intro k x y h; simp at h
  | cons a r ih =>
    intro k x y h hy
    cases k with
    | zero => simp at h; subst h; unfold tot; simp; omega
    | succ k =>
      simp only [List.getElem?_cons_succ] at h
      have := ih k x y h hy
      unfold tot at this ⊢
      simp only [List.set_cons_succ, List.map_cons, List.sum_cons]
      omega
theorem accT_shut {s : Bk} {k : Nat} {c : Ac} (hc : s.acs[k]? = some c) (h1 : 1 ≤ k) (hcc : c.2 = false) : (accT { s with acs := s.acs.set k (c.1, true) }).length = (accT s).length + 1 := by
  obtain ⟨j, rfl⟩ : ∃ j, k = j + 1 := ⟨k - 1, by omega⟩
  have h2 := accL_get hc
  have h3 : accL { s with acs := s.acs.set (j + 1) (c.1, true) } = (accL s).set j (acT (c.1, true)) := by
    unfold accL
    cases hq : s.acs with
    | nil => rw [hq] at hc; simp at hc
    | cons a r => simp
  unfold accT
  rw [jn_len, jn_len, h3, tot_set (accL s) j _ _ h2 (by unfold acT; simp [hcc]), List.length_set]
  omega
theorem clE_more {s : Bk} (hg : BkGood s) (kd a b : Int) (ls : List Ln) :
    (clY s kd a b ls = true ∧ s.acs.length + s.txs.length < (clE s kd a b ls).2.2.acs.length + (clE s kd a b ls).2.2.txs.length) ∨
    (clY s kd a b ls = true ∧ s.acs.length + s.txs.length = (clE s kd a b ls).2.2.acs.length + (clE s kd a b ls).2.2.txs.length ∧ accT (clE s kd a b ls).2.2 ≠ accT s) ∨
    (clY s kd a b ls = false ∧ (clE s kd a b ls).2.2 = s) := by
  by_cases h1 : kd = 1
  · subst h1
    have e1 : clE s 1 a b ls = opn s a := rfl
    have e2 : clY s 1 a b ls = decide ((opn s a).2.1 = 0) := rfl
    rw [e1, e2]
    by_cases he : (opn s a).2.1 = 0
    · obtain ⟨k, c, rfl, hc, hcc, h16, e3⟩ := opn_yes he
      left
      rw [e3]
      simp
    · right; right
      have := (opn_cnt hg a).resolve_left (fun h => he h.1)
      exact ⟨by simpa using he, this.2⟩
  by_cases h2 : kd = 2
  · subst h2
    have e1 : clE s 2 a b ls = (0, (cls s a).1, (cls s a).2) := rfl
    have e2 : clY s 2 a b ls = decide ((cls s a).1 = 0) := rfl
    rw [e1, e2]
    by_cases he : (cls s a).1 = 0
    · obtain ⟨k, c, rfl, hc, h0, hcc, e3⟩ := cls_yes he
      right; left
      rw [e3]
      refine ⟨rfl, by simp, fun h => ?_⟩
      have := accT_shut hc h0 hcc
      simp only at h
      rw [h] at this
      omega
    · right; right
      have := (cls_cnt hg a).resolve_left (fun h => he h.1)
      exact ⟨by simpa using he, this.2⟩
  by_cases h3 : kd = 3
  · subst h3
    have e1 : clE s 3 a b ls = (0, (pst s a b ls).1, (pst s a b ls).2) := rfl
    have e2 : clY s 3 a b ls = isN s a b ls := rfl
    rw [e1, e2]
    rcases pst_cnt hg a b ls with ⟨i1, _, _, _, _, _, _, _, i2, _⟩ | ⟨i1, i2⟩
    · left
      rw [i2]
      exact ⟨i1, by simp⟩
    · right; right
      exact ⟨i1, i2⟩
  · right; right
    have e1 : clE s kd a b ls = (0, 0, s) := by unfold clE; rw [if_neg h1, if_neg h2, if_neg h3]
    have e2 : clY s kd a b ls = false := by unfold clY; rw [if_neg h1, if_neg h2, if_neg h3]
    rw [e1, e2]
    exact ⟨rfl, rfl⟩
theorem clY_err {s : Bk} (hg : BkGood s) {kd a b : Int} {ls : List Ln} (h : ¬ (clE s kd a b ls).2.1 = 0) : clY s kd a b ls = false := by
  have h0 := (clE_no h).2
  rcases clE_more hg kd a b ls with ⟨_, h1⟩ | ⟨_, _, h2⟩ | ⟨h1, _⟩
  · rw [h0] at h1; omega
  · rw [h0] at h2; exact absurd rfl h2
  · exact h1
theorem dkW_len (y : Bool) (u : Nat) (x : ByteArray) : (dkW y u x []).length = if y then 2 else 0 := by
  unfold dkW; cases y <;> rfl

end Go.Proofs.YtdchbenfccofpaaGreatDoor
namespace Go.Proofs.YtdchbenfccofpaaGreatDoor
open Go.RowKit Db

set_option maxRecDepth 100000 in
set_option maxHeartbeats 2000000 in
theorem within_any (B p : Nat) (s : Bk) (a n : Int) (w : World) (h : Rfd w B p s) (ha : a < s.acs.length) :
    Calls Tryz.prog 195 #[.pointer (some ⟨p, 0, none⟩), .int .i64 a, .int .i64 n] w fun e w' => e = .returned (.bool (wth s.acs n 16 a)) ∧ w' = w := by
  obtain ⟨vp, vc, vt, tv, h⟩ := h
  obtain ⟨g, cap, rfl, hg, hg'⟩ := ownsRow_some h.par h.good.one
  have c0 := h.blk.cell 0
  simp only [List.getElem?_toArray, List.getElem?_cons_zero] at c0
  have hfew := h.good.few
  have H := hide h
  clear h
  go_enter Tryz.func195, Tryz.ntmps195
  go_wp2_with fail
  go_loopg [1, 7] 16 (fun m v i wr => ∃ j : Nat, ∃ x : Int, j ≤ 16 ∧ m = 16 - j ∧ i = .int .i64 j ∧ v = .int .i64 x ∧ x < s.acs.length ∧ Hid (wth s.acs n (16 - j) x = wth s.acs n 16 a) ∧ wr = w)
  case atStart => exact ⟨0, a, by omega, rfl, rfl, rfl, ha, rfl, rfl⟩
  case round =>
    obtain ⟨j, x, hj, rfl, rfl, rfl, hx, Ho, rfl⟩ := hrel
    by_cases hlt : j < 16
    · obtain ⟨f, hf⟩ : ∃ f, 16 - j = f + 1 := ⟨15 - j, by omega⟩
      have hw := unhide Ho
      rw [hf, wth_at] at hw
      by_cases h0 : x < 0
      · have hng : ¬ 0 ≤ x := by omega
        rw [if_pos h0] at hw
        have Hw := hide hw
        clear hw
        go_wp2_with fail
        go_ret
        exact ⟨retB' (unhide Hw), rfl⟩
      · rw [if_neg h0] at hw
        have h0' : 0 ≤ x := by omega
        by_cases hn : x = n
        · subst hn
          rw [if_pos (by simp)] at hw
          have Hw := hide hw
          clear hw
          go_wp2_with fail
          go_ret
          exact ⟨retB' (unhide Hw), rfl⟩
        · have hne : (x == n) = false := by simpa using hn
          rw [hne] at hw
          simp only [Bool.false_eq_true, if_false] at hw
          obtain ⟨k, rfl⟩ : ∃ k : Nat, x = k := ⟨x.toNat, by omega⟩
          have hk : k < s.acs.length := by omega
          obtain ⟨c, hc⟩ := acs_get hk
          rw [Int.toNat_natCast, List.getD_eq_getElem?_getD, hc, Option.getD_some] at hw
          have hord := (unhide H).good.ord _ _ hc
          have d := ownsRow_cell (unhide H).par (j := k) (u := .int .i64 c.1) (by rw [List.getElem?_map, hc]; rfl)
          have Hw := hide hw
          obtain ⟨c1, c2⟩ := c
          simp only at d hord Hw
          clear hw hc
          go_wp2_with fail
          go_roundg (16 - (j + 1))
          case measure => omega
          case rel => exact ⟨j + 1, c1, by omega, rfl, by go_num, rfl, by omega, by show _ = _; rw [show 16 - (j + 1) = f by omega]; exact unhide Hw, rfl⟩
    · obtain rfl : j = 16 := by omega
      have Hw : Hid (false = wth s.acs n 16 a) := (unhide Ho)
      clear Ho
      go_wp2_with fail
      go_ret
      exact ⟨retB' (unhide Hw), rfl⟩

set_option maxRecDepth 100000 in
set_option maxHeartbeats 8000000 in
theorem taken_any (B p : Nat) (s : Bk) (sel n a b : Int) (w : World) (h : Rfd w B p s) :
    Calls Tryz.prog 165 #[.pointer (some ⟨p, 0, none⟩), .int .u8 sel, .int .i64 n, .int .i64 a, .int .i64 b] w fun e w' => e = .returned (.tuple #[.int .i64 (tkT (inA s sel n) a b s.txs).1, .int .i64 (tkT (inA s sel n) a b s.txs).2]) ∧ Below w.heap.size w w' := by
  have Hwi := hide (fun (wx : World) (x : Int) (hx : x < s.acs.length) (h : Rfd wx B p s) => within_any B p s x n wx h hx)
  obtain ⟨vp, vc, vt, tv, h⟩ := h
  obtain ⟨ao, cap, rfl⟩ := ownsRow_form h.txs.own
  have c2 := h.blk.cell 2
  simp only [List.getElem?_toArray, List.getElem?_cons_zero, List.getElem?_cons_succ] at c2
  have hlen : tv.length ≤ 64 := by have := h.good.posts; rw [← h.jr, List.length_map] at this; exact this
  have Hjr := hide h.jr
  obtain ⟨q, hq⟩ : ∃ q, inA s sel n = q := ⟨_, rfl⟩
  have Hq := hide hq
  rw [hq]
  have H := hide h
  clear h hq
  go_enter Tryz.func165, Tryz.ntmps165
  go_wp2_with fail
  go_loopg [12, 13, 14] tv.length (fun m v u i wr => ∃ j : Nat, ∃ x : Int, ∃ c : Int, j ≤ tv.length ∧ m = tv.length - j ∧ i = .int .i64 j ∧ v = .int .i64 x ∧ u = .int .i64 c ∧ -(4000000000000 * (j : Int)) ≤ x ∧ x ≤ 4000000000000 * (j : Int) ∧ 0 ≤ c ∧ c ≤ 4 * (j : Int) ∧ Hid (x + (tkT q a b (s.txs.drop j)).1 = (tkT q a b s.txs).1 ∧ c + (tkT q a b (s.txs.drop j)).2 = (tkT q a b s.txs).2) ∧ Hid (Below w.heap.size w wr))
  case atStart => exact ⟨0, 0, 0, by omega, rfl, rfl, rfl, rfl, by omega, by omega, by omega, by omega, ⟨by simp, by simp⟩, Below.refl _ _⟩
  case round =>
    obtain ⟨j, x, c, hj, rfl, rfl, rfl, rfl, hx0, hx1, hc0, hc1, Ho, Hb⟩ := hrel
    have hsz := (unhide Hb).size
    have HB := hide ((unhide H).blk.kept (unhide Hb))
    have e2 := (unhide HB).cell 2
    simp only [List.getElem?_toArray, List.getElem?_cons_zero, List.getElem?_cons_succ] at e2
    by_cases hlt : j < tv.length
    · obtain ⟨⟨t, v⟩, ht⟩ : ∃ t, tv[j]? = some t := ⟨tv[j], List.getElem?_eq_getElem hlt⟩
      obtain ⟨g, _, e1, hg, hg'⟩ := ownsRow_some (unhide H).txs.own (by omega)
      simp only [Value.slice.injEq, true_and] at e1
      obtain ⟨rfl, rfl⟩ := e1
      have h3 := three_get (fun x : Tn × Value => Value.int .i64 x.1.1) (fun x => .int .i64 x.1.2.1) (fun x => x.2) tv j (t, v) ht
      have hro := ownsRow_below (unhide H).txs.own (unhide Hb)
      have d0 := ownsRow_cell hro (j := j * 3) h3.1
      have d1 := ownsRow_cell hro (j := j * 3 + 1) h3.2.1
      have d2 := ownsRow_cell hro (j := j * 3 + 2) h3.2.2
      have hmem := List.mem_of_getElem? ht
      have hl := (unhide H).txs.lns _ hmem
      have hst : s.txs[j]? = some t := by rw [← unhide Hjr, List.getElem?_map, ht]; rfl
      have hgt := (unhide H).good.tx t (List.mem_of_getElem? hst)
      have hga := (unhide H).good.acc t (List.mem_of_getElem? hst)
      have Hst := hide (tkT_O (q := q) (a := a) (b := b) hst)
      obtain ⟨ti, td, ls⟩ := t
      simp only at d0 d1 d2 hl hgt Hst hga
      obtain ⟨aol, capl, rfl⟩ := ownsRow_form hl
      have hl4 := hgt.2.2.2.2.1
      have Hlb := hide hgt.2.2.2.2.2
      have Hga := hide hga
      have Hl := hide (ownsRow_below hl (unhide Hb))
      clear h3 hro hmem hl hst hgt ht hga
      obtain ⟨ok, hok⟩ : ∃ ok, inD a b td = ok := ⟨_, rfl⟩
      rw [hok] at Hst
      go_wp2_with fail
      obtain ⟨W, hW⟩ : ∃ W, W = wr.alloc (.cells #[.int .i64 ti, .int .i64 td, .slice aol ls.length capl] 87) := ⟨_, rfl⟩
      have HbW : Hid (Below w.heap.size w W) := by rw [hW]; exact (unhide Hb).alloc hsz _
      have HlW : Hid (W.ownsRow B 89 2 (.slice aol ls.length capl) ls.length (cellsL ls)) := by rw [hW]; exact (unhide Hl).alloc _
      have HTx : Hid (Blk W wr.heap.size #[.int .i64 ti, .int .i64 td, .slice aol ls.length capl] 87) := by rw [hW]; exact Blk.new _ _ _
      have hWs : W.heap.size = wr.heap.size + 1 := by rw [hW]; simp
      rw [← hW]
      clear hW
      go_loopg [12, 13, 16] ls.length (fun m v u i wx => ∃ k : Nat, ∃ y : Int, ∃ z : Int, k ≤ ls.length ∧ m = ls.length - k ∧ i = .int .i64 k ∧ v = .int .i64 y ∧ u = .int .i64 z ∧ -(4000000000000 * (j : Int)) - 1000000000000 * (k : Int) ≤ y ∧ y ≤ 4000000000000 * (j : Int) + 1000000000000 * (k : Int) ∧ 0 ≤ z ∧ z ≤ 4 * (j : Int) + k ∧ Hid (y + (tkO ok q (ls.drop k)).1 = x + (tkO ok q ls).1 ∧ z + (tkO ok q (ls.drop k)).2 = c + (tkO ok q ls).2) ∧ wx = W)
      case atStart => exact ⟨0, x, c, by omega, rfl, rfl, rfl, rfl, by omega, by omega, by omega, by omega, ⟨by simp, by simp⟩, rfl⟩
      case round =>
        obtain ⟨k, y, z, hk, rfl, rfl, rfl, rfl, hy0, hy1, hz0, hz1, Hy, hWx⟩ := hrel
        subst hWx
        have hszW := (unhide HbW).size
        have t1 := (unhide HTx).cell 1
        have t2 := (unhide HTx).cell 2
        simp only [List.getElem?_toArray, List.getElem?_cons_zero, List.getElem?_cons_succ] at t1 t2
        by_cases hlt2 : k < ls.length
        · obtain ⟨⟨la, lm⟩, hlk⟩ : ∃ l, ls[k]? = some l := ⟨ls[k], List.getElem?_eq_getElem hlt2⟩
          obtain ⟨g2, _, e1, hg2, hg2'⟩ := ownsRow_some (unhide HlW) (by omega)
          simp only [Value.slice.injEq, true_and] at e1
          obtain ⟨rfl, rfl⟩ := e1
          have h2 := two_get (fun x : Ln => Value.int .i64 x.1) (fun x => .int .i64 x.2) ls k (la, lm) hlk
          have f0 := ownsRow_cell (unhide HlW) (j := k * 2) h2.1
          have f1 := ownsRow_cell (unhide HlW) (j := k * 2 + 1) h2.2
          have hb := unhide Hlb (la, lm) (List.mem_of_getElem? hlk)
          have hla := unhide Hga (la, lm) (List.mem_of_getElem? hlk)
          have Hyes := hide (tkO_yes (ok := ok) (q := q) hlk)
          have Hno := hide (tkO_no (ok := ok) (q := q) hlk)
          simp only at f0 f1 hb hla Hyes Hno
          clear h2 hlk
          obtain ⟨wv, hwv⟩ : ∃ wv, wth s.acs n 16 la = wv := ⟨_, rfl⟩
          have Hc := hide (unhide Hwi wr la hla ⟨_, _, _, _, (unhide H).kept (unhide HbW)⟩)
          rw [hwv] at Hc
          have Hwr : Hid (lm ≤ 1000000000000 ∧ -1000000000000 ≤ lm) := ⟨hb.2.2.2, hb.2.2.1⟩
          have hwr : IntKind.i64.wrap (y + lm) = y + lm := by rw [IntKind.wrap_i64]; omega
          have hwz : IntKind.i64.wrap (z + 1) = z + 1 := by rw [IntKind.wrap_i64]; omega
          clear hb
          go_wp2_with fail
          refine (unhide Hc).mono ?_
          rintro e w1 ⟨rfl, hw1⟩
          subst hw1
          have Hin : Hid (q la = if sel == 33 then la == n else wv) := by show _ = _; rw [← unhide Hq, ← hwv]; rfl
          clear hwv Hc
          by_cases hs : sel = 33
          · subst hs
            have Hin2 : Hid (q la = (la == n)) := by show _ = _; have := unhide Hin; simpa using this
            clear Hin
            cases hv : (la == n) with
            | false =>
              have Hn := hide (unhide Hno (.inl (by rw [unhide Hin2, hv])))
              go_wp2_with fail
              go_roundg (ls.length - (k + 1))
              case measure => omega
              case rel => exact ⟨k + 1, y, z, by omega, rfl, by go_num, rfl, rfl, by omega, by omega, by omega, by omega, by have h1 := unhide Hy; have h2 := unhide Hn; show _ ∧ _; omega, rfl⟩
            | true =>
              have Hqt : Hid (q la = true) := by show _ = _; rw [unhide Hin2, hv]
              by_cases e1 : a ≤ td
              · by_cases e2 : td ≤ b
                · have Hn := hide (unhide Hyes (by rw [← hok]; simp [inD, e1, e2]) (unhide Hqt))
                  go_wp2_with fail
                  go_roundg (ls.length - (k + 1))
                  case measure => omega
                  case rel => exact ⟨k + 1, y + lm, z + 1, by omega, rfl, by go_num, rfl, rfl, by have := unhide Hwr; omega, by have := unhide Hwr; omega, by omega, by omega, by have h1 := unhide Hy; have h2 := unhide Hn; show _ ∧ _; omega, rfl⟩
                · have Hn := hide (unhide Hno (.inr (by rw [← hok]; simp [inD, e2])))
                  go_wp2_with fail
                  go_roundg (ls.length - (k + 1))
                  case measure => omega
                  case rel => exact ⟨k + 1, y, z, by omega, rfl, by go_num, rfl, rfl, by omega, by omega, by omega, by omega, by have h1 := unhide Hy; have h2 := unhide Hn; show _ ∧ _; omega, rfl⟩
              · have Hn := hide (unhide Hno (.inr (by rw [← hok]; simp [inD, e1])))
                go_wp2_with fail
                go_roundg (ls.length - (k + 1))
                case measure => omega
                case rel => exact ⟨k + 1, y, z, by omega, rfl, by go_num, rfl, rfl, by omega, by omega, by omega, by omega, by have h1 := unhide Hy; have h2 := unhide Hn; show _ ∧ _; omega, rfl⟩
          · have hne : (sel == 33) = false := by simpa using hs
            have Hin2 : Hid (q la = wv) := by have := unhide Hin; rw [hne] at this; exact this
            clear Hin
            cases wv with
            | false =>
              have Hn := hide (unhide Hno (.inl (unhide Hin2)))
              go_wp2_with fail
              go_roundg (ls.length - (k + 1))
              case measure => omega
              case rel => exact ⟨k + 1, y, z, by omega, rfl, by go_num, rfl, rfl, by omega, by omega, by omega, by omega, by have h1 := unhide Hy; have h2 := unhide Hn; show _ ∧ _; omega, rfl⟩
            | true =>
              by_cases e1 : a ≤ td
              · by_cases e2 : td ≤ b
                · have Hn := hide (unhide Hyes (by rw [← hok]; simp [inD, e1, e2]) (unhide Hin2))
                  go_wp2_with fail
                  go_roundg (ls.length - (k + 1))
                  case measure => omega
                  case rel => exact ⟨k + 1, y + lm, z + 1, by omega, rfl, by go_num, rfl, rfl, by have := unhide Hwr; omega, by have := unhide Hwr; omega, by omega, by omega, by have h1 := unhide Hy; have h2 := unhide Hn; show _ ∧ _; omega, rfl⟩
                · have Hn := hide (unhide Hno (.inr (by rw [← hok]; simp [inD, e2])))
                  go_wp2_with fail
                  go_roundg (ls.length - (k + 1))
                  case measure => omega
                  case rel => exact ⟨k + 1, y, z, by omega, rfl, by go_num, rfl, rfl, by omega, by omega, by omega, by omega, by have h1 := unhide Hy; have h2 := unhide Hn; show _ ∧ _; omega, rfl⟩
              · have Hn := hide (unhide Hno (.inr (by rw [← hok]; simp [inD, e1])))
                go_wp2_with fail
                go_roundg (ls.length - (k + 1))
                case measure => omega
                case rel => exact ⟨k + 1, y, z, by omega, rfl, by go_num, rfl, rfl, by omega, by omega, by omega, by omega, by have h1 := unhide Hy; have h2 := unhide Hn; show _ ∧ _; omega, rfl⟩
        · obtain rfl : k = ls.length := by omega
          have hyy : y = x + (tkO ok q ls).1 ∧ z = c + (tkO ok q ls).2 := by have := unhide Hy; rw [tkO_end] at this; simpa using this
          have Ho2 : Hid (y + (tkT q a b (s.txs.drop (j + 1))).1 = (tkT q a b s.txs).1 ∧ z + (tkT q a b (s.txs.drop (j + 1))).2 = (tkT q a b s.txs).2) := by
            have h1 := unhide Ho
            have h2 := unhide Hst
            show _ ∧ _
            omega
          clear hyy
          go_wp2_with fail
          go_roundg (tv.length - (j + 1))
          case measure => omega
          case rel => exact ⟨j + 1, y, z, by omega, rfl, by go_num, rfl, rfl, by omega, by omega, by omega, by omega, unhide Ho2, unhide HbW⟩
    · obtain rfl : j = tv.length := by omega
      have Hfin : Hid (x = (tkT q a b s.txs).1 ∧ c = (tkT q a b s.txs).2) := by
        have := unhide Ho
        rw [List.drop_of_length_le (by rw [← unhide Hjr, List.length_map]; exact Nat.le_refl _)] at this
        show _ ∧ _
        simpa [tkT] using this
      go_wp2_with fail
      go_ret2
      rw [(unhide Hfin).1, (unhide Hfin).2]
      exact ⟨rfl, unhide Hb⟩

end Go.Proofs.YtdchbenfccofpaaGreatDoor
namespace Go.Proofs.YtdchbenfccofpaaGreatDoor
open Go.RowKit Db

theorem ret_int {k : IntKind} {a b : Int} (h : a = b) : Ending.returned (.int k a) = .returned (.int k b) := by rw [h]

theorem bare_yes (s u : ByteArray) (k : Nat) (h : k < s.size) (hb : ¬ s[k].toNat = 32) (hu : L u = bare ((L s).take k)) :
    L (u ++ s.extract k (k + 1)) = bare ((L s).take (k + 1)) := by
  rw [L_append, L_one s k h, L_take_succ s k h, bare_append, bare_other hb, hu]
theorem bare_no (s u : ByteArray) (k : Nat) (h : k < s.size) (hb : s[k].toNat = 32) (hu : L u = bare ((L s).take k)) :
    L u = bare ((L s).take (k + 1)) := by
  rw [L_take_succ s k h, bare_append, bare_blank hb, hu, List.append_nil]
theorem bare_size (s u : ByteArray) (k : Nat) (hu : L u = bare ((L s).take k)) : u.size ≤ k := by
  rw [← L_length, hu]; exact Nat.le_trans (bare_le _) (List.length_take_le _ _)

set_option maxHeartbeats 400000 in
theorem bare_any (s : ByteArray) (w : World) (hs : s.size ≤ 200) :
    Calls Tryz.prog 153 #[.string s] w fun e w' => ∃ t : ByteArray, e = .returned (.string t) ∧ L t = bare (L s) ∧ w' = w := by
  go_enter Tryz.func153, Tryz.ntmps153
  go_wp2
  go_loop [3, 4] (fun t i => ∃ k : Nat, ∃ u : ByteArray, k ≤ s.size ∧ i = .int .i64 k ∧ t = .string u ∧ Hid (L u = bare ((L s).take k))) (fun _ i => s.size - (intOf i).toNat)
  case atStart => exact ⟨0, _, Nat.zero_le _, rfl, rfl, hide rfl⟩
  case round =>
    obtain ⟨k, u, hk, rfl, rfl, Hu⟩ := hrel
    have hz := bare_size s u k (unhide Hu)
    by_cases hlt : k < s.size
    · by_cases hb : s[k].toNat = 32
      · have hb' : ((s[k].toNat : Int) != 32) = false := by simp; omega
        go_wp2
        go_round
        case rel => exact ⟨k + 1, u, by omega, by go_num, rfl, bare_no s u k hlt hb (unhide Hu)⟩
        case measure => simp [intOf]; omega
      · have hb' : ((s[k].toNat : Int) != 32) = true := by simp; omega
        go_wp2
        go_round
        case rel => exact ⟨k + 1, _, by omega, by go_num, rfl, bare_yes s u k hlt hb (unhide Hu)⟩
        case measure => simp [intOf]; omega
    · go_wp2
      go_ret
      exact ⟨u, rfl, by rw [unhide Hu, L_take_end s k (by omega)], rfl⟩

theorem val_step (s : ByteArray) (k : Nat) (h : k < s.size) (n : Int) : valGo n ((L s).drop k) = valGo (10 * n + ((s[k].toNat : Int) - 48)) ((L s).drop (k + 1)) := by
  rw [L_drop s k h]; rfl
def pow10 (k : Nat) : Int := 10 ^ k
theorem pow10_succ (k : Nat) : pow10 (k + 1) = 10 * pow10 k := by unfold pow10; rw [Int.pow_succ]; omega
theorem pow10_pos (k : Nat) : 1 ≤ pow10 k := by
  induction k with
  | zero => decide
  | succ k ih => rw [pow10_succ]; omega
theorem pow10_le (k : Nat) (h : k ≤ 17) : pow10 k ≤ 100000000000000000 := by
  have : pow10 17 = 100000000000000000 := by decide
  have key : ∀ d j : Nat, j + d = 17 → pow10 j ≤ pow10 17 := by
    intro d
    induction d with
    | zero => intro j hj; rw [show j = 17 by omega]; exact Int.le_refl _
    | succ d ih => intro j hj; have := ih (j + 1) (by omega); rw [pow10_succ] at this; have := pow10_pos j; omega
  have := key (17 - k) k (by omega)
  omega

set_option maxHeartbeats 400000 in
theorem value_any (s : ByteArray) (w : World) (hs : s.size ≤ 18) (hd : ∀ k (h : k < s.size), 48 ≤ s[k].toNat ∧ s[k].toNat ≤ 57) :
    Calls Tryz.prog 154 #[.string s] w fun e w' => e = .returned (.int .i64 (val (L s))) ∧ 0 ≤ val (L s) ∧ val (L s) < pow10 s.size ∧ w' = w := by
  have Hd := hide hd
  clear hd
  go_enter Tryz.func154, Tryz.ntmps154
  go_wp2
  go_loop [3, 4] (fun t i => ∃ k : Nat, ∃ n : Int, k ≤ s.size ∧ i = .int .i64 k ∧ t = .int .i64 n ∧ 0 ≤ n ∧ n < pow10 k ∧ Hid (val (L s) = valGo n ((L s).drop k))) (fun _ i => s.size - (intOf i).toNat)
  case atStart => exact ⟨0, 0, Nat.zero_le _, rfl, rfl, by omega, by decide, hide rfl⟩
  case round =>
    obtain ⟨k, n, hk, rfl, rfl, h0, h1, Hu⟩ := hrel
    by_cases hlt : k < s.size
    · have hdd := unhide Hd k hlt
      have hp := pow10_le k (by omega)
      have hn : n ≤ 99999999999999999 := by omega
      clear hp
      go_wp2
      go_round
      case rel =>
        have hp2 := pow10_succ k
        refine ⟨k + 1, _, by omega, by go_num, rfl, by omega, by omega, ?_⟩
        show val _ = _
        rw [unhide Hu, val_step s k hlt]
      case measure => simp [intOf]; omega
    · go_wp2
      go_ret
      have hk' : k = s.size := by omega
      subst hk'
      have e : val (L s) = n := by rw [unhide Hu, L_drop_end s _ (Nat.le_refl _)]; rfl
      exact ⟨ret_int e.symm, by omega, by omega, rfl⟩


theorem split_step (s : ByteArray) (c : UInt8) (acc : List (List UInt8)) (f k : Nat) (hf : f ≤ k) (h : k < s.size) (hb : ¬ s[k] = c) :
    splitGo c acc (L (s.extract f k)) ((L s).drop k) = splitGo c acc (L (s.extract f (k + 1))) ((L s).drop (k + 1)) := by
  rw [L_drop s k h]
  show (if s[k] = c then _ else _) = _
  rw [if_neg hb]
  congr 1
  rw [L_extract, L_extract, show k + 1 - f = (k - f) + 1 by omega, List.take_succ_eq_append_getElem (by rw [List.length_drop, L_length]; omega)]
  congr 2
  rw [List.getElem_drop]
  simp only [show f + (k - f) = k by omega]
  exact (L_get s k h).symm
theorem split_cut (s : ByteArray) (c : UInt8) (acc : List (List UInt8)) (f k : Nat) (h : k < s.size) (hb : s[k] = c) :
    splitGo c acc (L (s.extract f k)) ((L s).drop k) = splitGo c (acc ++ [L (s.extract f k)]) (L (s.extract (k + 1) (k + 1))) ((L s).drop (k + 1)) := by
  rw [L_drop s k h]
  show (if s[k] = c then _ else _) = _
  rw [if_pos hb, L_extract s (k + 1) (k + 1), Nat.sub_self, List.take_zero]

theorem info_string : (Tryz.prog.info? 9).map (fun i => (i.zero, i.size, i.bytes)) = some (some (.string ⟨#[]⟩), 1, 16) := by kernel_rfl

set_option maxHeartbeats 400000 in
theorem split_any (s : ByteArray) (c : UInt8) (w : World) (hs : s.size ≤ 50000) :
    Calls Tryz.prog 77 #[.string s, .int .u8 (c.toNat : Int)] w fun e w' => ∃ v : Value, ∃ ss : List ByteArray, e = .returned v ∧ ss.map L = split (L s) c ∧
      w'.ownsRow w.heap.size 9 1 v ss.length (ss.map Value.string) ∧ Below w.heap.size w w' := by
  obtain ⟨i, hi, hz0, hz1, hz2⟩ := info_parts info_string
  go_enter Tryz.func77, Tryz.ntmps77
  go_wp2
  go_loopw [5, 6, 7] (fun v f i wr => ∃ k fr : Nat, ∃ ss : List ByteArray, fr ≤ k ∧ k ≤ s.size ∧ i = .int .i64 k ∧ f = .int .i64 fr ∧ ss.length ≤ k ∧
      Hid (splitGo c (ss.map L) (L (s.extract fr k)) ((L s).drop k) = split (L s) c) ∧ Hid (wr.ownsRow w.heap.size 9 1 v ss.length (ss.map Value.string)) ∧ Hid (Below w.heap.size w wr)) (fun _ _ i _ => s.size - (intOf i).toNat)
  case atStart => exact ⟨0, 0, [], by omega, by omega, rfl, rfl, by simp, hide (by rw [L_extract]; rfl), hide (World.ownsRow_nil _ _ _ _), hide (Below.refl _ _)⟩
  case round =>
    obtain ⟨k, fr, ss, hfr, hk, rfl, rfl, hss, Hs, Ho, Hb⟩ := hrel
    have hsz := (unhide Hb).size
    by_cases hlt : k < s.size
    · by_cases hc : s[k] = c
      · have hc' : ((s[k].toNat : Int) == (c.toNat : Int)) = true := by rw [hc]; simp
        have HC := hide hc
        clear hc
        go_wp2_with (first
          | (at_builtin; refine wpList_append_own _ rfl _ _ 115 rfl w.heap.size 9 i (.string ⟨#[]⟩) 1 16 Tryz.underlying115 hi hz0 hz1 hz2 rfl (by decide) _ _ _ rfl ((unhide Ho).alloc _) ⟨wr.heap.size, 0, none⟩ 1 1 [.string (s.extract fr k)] rfl rfl (cell_one_new _ _ _) (fun x hx => by simp at hx; subst hx; rfl) (by unfold maxLen; omega) (by omega) (by simp; omega) ?_; intro v' w2 hown2 hgr2 _))
        have Hown := hide hown2
        have Hgr := hide hgr2
        clear hown2 hgr2
        go_wp2
        go_roundw
        case rel =>
          refine ⟨k + 1, k + 1, ss ++ [s.extract fr k], by omega, by omega, by go_num, by go_num, by simp; omega, ?_, ?_, ?_⟩
          · show splitGo _ _ _ _ = _
            rw [← unhide Hs, split_cut s c _ fr k hlt (unhide HC)]; simp
          · show World.ownsRow _ _ _ _ _ _ _
            simpa using unhide Hown
          · exact ((unhide Hb).alloc hsz _).grown (unhide Hgr) (by simp; omega) (fun g hg => ((unhide Ho).lt g hg).1)
        case measure => simp [intOf]; omega
      · have hc' : ((s[k].toNat : Int) == (c.toNat : Int)) = false := by
          rw [beq_eq_false_iff_ne]; intro h; exact hc (UInt8.toNat_inj.1 (by omega))
        go_wp2
        go_roundw
        case rel =>
          refine ⟨k + 1, fr, ss, by omega, by omega, by go_num, rfl, by omega, ?_, Ho, Hb⟩
          show splitGo _ _ _ _ = _
          rw [← unhide Hs, split_step s c _ fr k hfr hlt hc]
        case measure => simp [intOf]; omega
    · have hk' : k = s.size := by omega
      subst hk'
      clear hk hlt
      go_wp2_with (first
          | (at_builtin; refine wpList_append_own _ rfl _ _ 115 rfl w.heap.size 9 i (.string ⟨#[]⟩) 1 16 Tryz.underlying115 hi hz0 hz1 hz2 rfl (by decide) _ _ _ rfl ((unhide Ho).alloc _) ⟨wr.heap.size, 0, none⟩ 1 1 [.string (s.extract fr s.size)] rfl rfl (cell_one_new _ _ _) (fun x hx => by simp at hx; subst hx; rfl) (by unfold maxLen; omega) (by omega) (by simp; omega) ?_; intro v' w2 hown2 hgr2 _))
      have Hown := hide hown2
      have Hgr := hide hgr2
      clear hown2 hgr2
      go_wp2
      go_ret
      refine ⟨v', ss ++ [s.extract fr s.size], rfl, ?_, ?_, ?_⟩
      · rw [← unhide Hs, L_drop_end s _ (Nat.le_refl _)]; simp [splitGo]
      · simpa using unhide Hown
      · exact ((unhide Hb).alloc hsz _).grown (unhide Hgr) (by simp; omega) (fun g hg => ((unhide Ho).lt g hg).1)

end Go.Proofs.YtdchbenfccofpaaGreatDoor
