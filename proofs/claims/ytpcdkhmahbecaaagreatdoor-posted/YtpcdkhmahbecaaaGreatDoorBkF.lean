/- Walks of the books: the program's Close. -/
import Derived.Test.YtpcdkhmahbecaaaGreatDoorBkE
namespace Go.Proofs.YtpcdkhmahbecaaaGreatDoor
open Go.RowKit Db

theorem own_set {w : World} {B g n cap i : Nat} {e : TypeId} {size : Nat} {xs : List Value} (h : w.ownsRow B e size (.slice (some ⟨g, 0, none⟩) n cap) n xs) (v : Value) :
    (w.setCell ⟨g, i, none⟩ v).ownsRow B e size (.slice (some ⟨g, 0, none⟩) n cap) n (xs.set i v) := by
  refine ⟨by rw [List.length_set]; exact h.1, ?_⟩
  rcases h.2 with ⟨h0, _⟩ | ⟨g', cap', cur, h0, hB, hg, hn, hc, hs, ht⟩
  · cases h0
  · simp only [Value.slice.injEq, Option.some.injEq, Addr.mk.injEq, and_true, true_and] at h0
    obtain ⟨rfl, rfl⟩ := h0
    refine .inr ⟨g, cap, cur.setIfInBounds i v, rfl, hB, ?_, hn, hc, by simpa using hs, ?_⟩
    · simp [World.setCell, Array.getElem?_modify, hg]
    · rw [Array.toList_setIfInBounds, List.take_set, ht]
theorem flat2_set {α : Type} (f g : α → Value) (b : α) (l : List α) : ∀ (k : Nat) (a : α), l[k]? = some a → f b = f a → (l.set k b).flatMap (fun x => [f x, g x]) = (l.flatMap fun x => [f x, g x]).set (k * 2 + 1) (g b) := by
  induction l with
  | nil => intro k a h; simp at h
  | cons x t ih =>
    intro k a h hf
    cases k with
    | zero => simp at h; subst h; simp [hf]
    | succ k =>
      simp only [List.getElem?_cons_succ] at h
      have := ih k a h hf
      simp only [List.set_cons_succ, List.flatMap_cons, List.cons_append, List.nil_append]
      rw [this, show (k + 1) * 2 = (k * 2 + 1) + 1 by omega]
      simp
theorem cellsA_shut {l : List Ac} {k : Nat} {c : Ac} (h : l[k]? = some c) : cellsA (l.set k (c.1, true)) = (cellsA l).set (k * 2 + 1) (.bool true) :=
  flat2_set (fun a : Ac => Value.int .i64 a.1) (fun a => .bool a.2) (c.1, true) l k c h rfl

theorem LedAt.shut {w : World} {B p g cap k : Nat} {vt : Value} {tv : List (Tn × Value)} {s : Bk} {c : Ac} (h : LedAt w B p (.slice (some ⟨g, 0, none⟩) s.acs.length cap) vt tv s) (hc : s.acs[k]? = some c) (hg : BkGood { s with acs := s.acs.set k (c.1, true) }) :
    LedAt (w.setCell ⟨g, k * 2 + 1, none⟩ (.bool true)) B p (.slice (some ⟨g, 0, none⟩) s.acs.length cap) vt tv { s with acs := s.acs.set k (c.1, true) } ∧ FrT B tP w (w.setCell ⟨g, k * 2 + 1, none⟩ (.bool true)) := by
  have ht := ownsRow_tg h.acs g rfl
  have f1 : FrT B [96] w (w.setCell ⟨g, k * 2 + 1, none⟩ (.bool true)) := (FrT.refl _ _ w).setCell (T := 96) (by simp) ht.2 ht.1 _
  refine ⟨⟨h.blk.frT f1 (by decide), h.lo, ?_, h.txs.frT f1 (by decide) (by decide), h.jr, hg⟩, f1.mono (by simp [tP])⟩
  simp only [List.length_set]
  rw [cellsA_shut hc]
  exact own_set h.acs _

theorem cls_none {s : Bk} {a : Int} (h : ther s a = false ∨ a = 0) : cls s a = (7, s) := by unfold cls; rw [if_pos h]
theorem cls_shut {s : Bk} {a : Int} (h : ther s a = true) (h0 : ¬ a = 0) (hc : clsd s a = true) : cls s a = (8, s) := by unfold cls; rw [if_neg (by simp [h, h0]), if_pos hc]
theorem cls_open {s : Bk} {a : Int} (h : ther s a = true) (h0 : ¬ a = 0) (hc : clsd s a = false) (ho : opb a s.acs = true) : cls s a = (9, s) := by unfold cls; rw [if_neg (by simp [h, h0]), if_neg (by simp [hc]), if_pos ho]
theorem cls_bal {s : Bk} {a : Int} (h : ther s a = true) (h0 : ¬ a = 0) (hc : clsd s a = false) (ho : opb a s.acs = false) (hb : ¬ balT a s.txs = 0) : cls s a = (10, s) := by unfold cls; rw [if_neg (by simp [h, h0]), if_neg (by simp [hc]), if_neg (by simp [ho]), if_pos hb]
theorem cls_ok {s : Bk} {k : Nat} {c : Ac} (h : ther s k = true) (h0 : ¬ (k : Int) = 0) (hc : clsd s k = false) (ho : opb k s.acs = false) (hb : balT k s.txs = 0) (hk : s.acs[k]? = some c) : cls s k = (0, { s with acs := s.acs.set k (c.1, true) }) := by
  unfold cls
  rw [if_neg (by simp only [h, h0]; simp), if_neg (by simp [hc]), if_neg (by simp [ho]), if_neg (by simp [hb])]
  simp [hk]

set_option maxRecDepth 100000 in
set_option maxHeartbeats 2000000 in
theorem ledClose_any (B p : Nat) (s : Bk) (a : Int) (w : World) (h : Led w B p s) :
    Calls Tryz.prog 98 #[.pointer (some ⟨p, 0, none⟩), .int .i64 a] w fun e w' => e = .returned (.int .i64 (cls s a).1) ∧ Led w' B p (cls s a).2 ∧ FrT B tP w w' := by
  have Hho := hide (hasOpen_any B p s a w h)
  have Hbal := hide (fun wx h => balance_any B p s a wx h)
  obtain ⟨va, vt, tv, h⟩ := h
  obtain ⟨g, cap, rfl, hg, hg'⟩ := ownsRow_some h.acs h.good.one
  have c0 := h.blk.cell 0
  have hlp := h.blk.lt
  simp only [List.getElem?_toArray, List.getElem?_cons_zero] at c0
  have hfew := h.good.few
  have H := hide h
  by_cases hin : a ≤ 0 ∨ (s.acs.length : Int) ≤ a
  · rw [cls_none (by by_cases h0 : a = 0; exact .inr h0; exact .inl (ther_no (by omega)))]
    clear h
    by_cases hneg : a ≤ 0
    · go_enter Tryz.func98, Tryz.ntmps98
      go_wp2_with fail
      go_ret
      exact ⟨rfl, ⟨_, _, _, unhide H⟩, FrT.refl _ _ _⟩
    · have hge : (s.acs.length : Int) ≤ a := by omega
      go_enter Tryz.func98, Tryz.ntmps98
      go_wp2_with fail
      go_ret
      exact ⟨rfl, ⟨_, _, _, unhide H⟩, FrT.refl _ _ _⟩
  · obtain ⟨k, rfl⟩ : ∃ k : Nat, a = k := ⟨a.toNat, by omega⟩
    have hk : k < s.acs.length := by omega
    have hk0 : ¬ (k : Int) = 0 := by omega
    obtain ⟨c, hc⟩ := acs_get hk
    have d := ownsRow_cell h.acs (j := k * 2 + 1) (two_get (fun a : Ac => Value.int .i64 a.1) (fun a => .bool a.2) s.acs k c hc).2
    have ht := ther_nat hk
    have hcl := clsd_at hc
    have hle : ¬ (k : Int) ≤ 0 := by omega
    clear h hin
    cases hcc : c.2 with
    | true =>
      rw [hcc] at d hcl
      rw [cls_shut ht hk0 hcl]
      clear ht hcl hc
      go_enter Tryz.func98, Tryz.ntmps98
      go_wp2_with fail
      go_ret
      exact ⟨rfl, ⟨_, _, _, unhide H⟩, FrT.refl _ _ _⟩
    | false =>
      rw [hcc] at d hcl
      cases ho : opb (k : Int) s.acs with
      | true =>
        rw [ho] at Hho
        rw [cls_open ht hk0 hcl ho]
        clear ht hcl hc ho
        go_enter Tryz.func98, Tryz.ntmps98
        go_wp2_with fail
        refine (unhide Hho).mono ?_
        rintro e w1 ⟨rfl, hb1⟩
        have Hb1 := hide hb1
        clear hb1
        go_wp2_with fail
        go_ret
        exact ⟨rfl, ⟨_, _, _, (unhide H).kept (unhide Hb1)⟩, FrT.of_below (unhide Hb1)⟩
      | false =>
        rw [ho] at Hho
        by_cases hbal : balT (k : Int) s.txs = 0
        · have hok := cls_ok ht hk0 hcl ho hbal hc
          have Hgood : Hid (BkGood { s with acs := s.acs.set k (c.1, true) }) := by
            have := BkGood.cls (unhide H).good (k : Int)
            rw [hok] at this
            exact this
          rw [hok]
          rw [hbal] at Hbal
          have Hc := hide hc
          clear ht hcl hc ho hok hbal
          go_enter Tryz.func98, Tryz.ntmps98
          go_wp2_with fail
          refine (unhide Hho).mono ?_
          rintro e w1 ⟨rfl, hb1⟩
          have H1 := hide ((unhide H).kept hb1)
          have Hb1 := hide hb1
          clear hb1
          go_wp2_with fail
          refine (unhide Hbal _ ⟨_, _, _, unhide H1⟩).mono ?_
          rintro e w2 ⟨rfl, hb2⟩
          have H2 := hide ((unhide H1).kept hb2)
          have Hb2 := hide ((unhide Hb1).then hb2)
          have c2 := (unhide H2).blk.cell 0
          simp only [List.getElem?_toArray, List.getElem?_cons_zero] at c2
          have z2 := ownsRow_frozen (unhide H2).acs (k * 2 + 1)
          have d2 := ownsRow_cell (unhide H2).acs (j := k * 2 + 1) (two_get (fun a : Ac => Value.int .i64 a.1) (fun a => .bool a.2) s.acs k c (unhide Hc)).2
          clear hb2
          go_wp2_with fail
          go_ret
          have hfin := (unhide H2).shut (unhide Hc) (unhide Hgood)
          exact ⟨rfl, ⟨_, _, _, hfin.1⟩, (FrT.of_below (unhide Hb2)).trans hfin.2⟩
        · rw [cls_bal ht hk0 hcl ho hbal]
          obtain ⟨b, hb⟩ : ∃ b, balT (k : Int) s.txs = b := ⟨_, rfl⟩
          rw [hb] at Hbal hbal
          have hbe : (b == 0) = false := by simpa using hbal
          clear ht hcl hc ho hb
          go_enter Tryz.func98, Tryz.ntmps98
          go_wp2_with fail
          refine (unhide Hho).mono ?_
          rintro e w1 ⟨rfl, hb1⟩
          have H1 := hide ((unhide H).kept hb1)
          have Hb1 := hide hb1
          clear hb1
          go_wp2_with fail
          refine (unhide Hbal _ ⟨_, _, _, unhide H1⟩).mono ?_
          rintro e w2 ⟨rfl, hb2⟩
          have H2 := hide ((unhide H1).kept hb2)
          have Hb2 := hide ((unhide Hb1).then hb2)
          clear hb2
          go_wp2_with fail
          go_ret
          exact ⟨rfl, ⟨_, _, _, unhide H2⟩, FrT.of_below (unhide Hb2)⟩

set_option maxHeartbeats 1000000 in
theorem dayClose_any (B p : Nat) (s : Bk) (a : Int) (w : World) (h : Led w B p s) :
    Calls Tryz.prog 64 #[.pointer (some ⟨p, 0, none⟩), .int .i64 a] w fun e w' => e = .returned (.int .i64 (cls s a).1) ∧ Led w' B p (cls s a).2 ∧ FrT B tP w w' := by
  have Hc := hide (ledClose_any B p s a w h)
  obtain ⟨⟨x, s'⟩, hr⟩ : ∃ r, cls s a = r := ⟨_, rfl⟩
  rw [hr] at Hc ⊢
  clear h hr
  simp only at Hc ⊢
  go_enter Tryz.func64, Tryz.ntmps64
  go_wp2_with fail
  refine (unhide Hc).mono ?_
  rintro e w1 ⟨rfl, h1, h2⟩
  have H1 := hide h1
  have H2 := hide h2
  clear h1 h2
  go_wp2_with fail
  go_ret
  exact ⟨rfl, unhide H1, unhide H2⟩

end Go.Proofs.YtpcdkhmahbecaaaGreatDoor
