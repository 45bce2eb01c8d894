/- Walks of the reader: rows. -/
import Derived.Test.YtpcdkhmahbecaaaDoorRdI
import Derived.Test.YtpcdkhmahbecaaaDoorParG
namespace Go.Proofs.YtpcdkhmahbecaaaDoor
open Go.RowKit Db

theorem info_row : (Tryd.prog.info? 74).map (fun i => (i.zero, i.size, i.bytes)) = some (some (.agg #[.slice none 0 0]), 1, 24) := by kernel_rfl

/-- Two rows of cells of two types lie in two blocks. -/
theorem own_apart {w : World} {B B' : Nat} {e e' : TypeId} {s s' : Nat} {v v' : Value} {n n' : Nat} {xs xs' : List Value} (h : w.ownsRow B e s v n xs) (h' : w.ownsRow B' e' s' v' n' xs') (hne : e ≠ e') : v.ownBlock = none ∨ v.ownBlock ≠ v'.ownBlock := by
  rcases h.2 with ⟨rfl, _⟩ | ⟨g, cap, cur, rfl, _, hg, _⟩
  · exact .inl rfl
  · refine .inr (fun eq => ?_)
    rcases h'.2 with ⟨rfl, _⟩ | ⟨g', cap', cur', rfl, _, hg', _⟩
    · simp [Value.ownBlock] at eq
    · simp [Value.ownBlock] at eq
      subst eq
      rw [hg] at hg'
      simp at hg'
      exact hne hg'.2

/-- The rows as they lie: the list's cells, and for each its parts. -/
structure RowsAt (w : World) (B : Nat) (vr : Value) (vs : List Value) (pss : List (List Pt)) : Prop where
  own : w.ownsRow B 74 1 vr vs.length vs
  len : vs.length = pss.length
  row : ∀ (i : Nat) v ps, vs[i]? = some v → pss[i]? = some ps → w.ownsRow B 109 2 v ps.length (cellsP ps)
  bd : ∀ ps ∈ pss, ps.length ≤ 200
theorem RowsAt.nil (w : World) (B : Nat) : RowsAt w B (.slice none 0 0) [] [] := ⟨World.ownsRow_nil _ _ _ _, rfl, (by intro i v ps h; simp at h), by simp⟩
theorem RowsAt.frm {w w' : World} {B : Nat} {X : Nat → Prop} {vr : Value} {vs : List Value} {pss : List (List Pt)} (h : RowsAt w B vr vs pss) (hf : Frm w.heap.size X w w') (hx : ∀ k, B ≤ k → k < w.heap.size → ¬ X k) : RowsAt w' B vr vs pss :=
  ⟨ownsRow_frm h.own hf (fun k hk => ⟨(h.own.lt k hk).2, hx k (h.own.lt k hk).1 (h.own.lt k hk).2⟩), h.len,
   fun i v ps h1 h2 => ownsRow_frm (h.row i v ps h1 h2) hf (fun k hk => ⟨((h.row i v ps h1 h2).lt k hk).2, hx k ((h.row i v ps h1 h2).lt k hk).1 ((h.row i v ps h1 h2).lt k hk).2⟩), h.bd⟩
theorem RowsAt.kept {w w' : World} {B : Nat} {vr : Value} {vs : List Value} {pss : List (List Pt)} (h : RowsAt w B vr vs pss) (hb : Below w.heap.size w w') : RowsAt w' B vr vs pss :=
  h.frm (X := fun _ => False) hb.frm (fun _ _ _ h => h)
/-- One row more. -/
theorem RowsAt.snoc {W w5 : World} {B : Nat} {vr vr' v2 : Value} {vs : List Value} {pss : List (List Pt)} {ps2 : List Pt} (h : RowsAt W B vr vs pss) (o : Obj)
    (hv : W.ownsRow B 109 2 v2 ps2.length (cellsP ps2)) (hown : w5.ownsRow B 74 1 vr' (vs.length + 1) (vs ++ [v2])) (hgr : (W.alloc o).grownBy w5 vr.ownBlock) (hbd : ps2.length ≤ 200) : RowsAt w5 B vr' (vs ++ [v2]) (pss ++ [ps2]) := by
  refine ⟨by simpa using hown, by simp [h.len], ?_, by intro q hq; simp at hq; rcases hq with hq | rfl; exact h.bd q hq; exact hbd⟩
  intro i v ps h1 h2
  by_cases hi : i < vs.length
  · rw [List.getElem?_append_left hi] at h1
    rw [List.getElem?_append_left (by rw [← h.len]; exact hi)] at h2
    exact ((h.row i v ps h1 h2).alloc o).kept hgr (own_apart (h.row i v ps h1 h2) h.own (by decide))
  · rw [List.getElem?_append_right (by omega)] at h1
    rw [List.getElem?_append_right (by rw [← h.len]; omega)] at h2
    rw [← h.len] at h2
    match hk : i - vs.length, h1, h2 with
    | 0, h1, h2 =>
      simp at h1 h2
      subst h1 h2
      exact (hv.alloc o).kept hgr (own_apart hv h.own (by decide))
    | k + 1, h1, h2 => simp at h1

/-- A call of the reader that knows the last row's parts alone. -/
theorem RowsAt.reader {w w' : World} {B b : Nat} {vr v2 : Value} {vs : List Value} {pss : List (List Pt)} {ps2 : List Pt} (h : RowsAt w B vr (vs ++ [v2]) (pss ++ [ps2])) (hl : vs.length = pss.length) (hb : b < B)
    (hne : ∀ (i : Nat) v k, vs[i]? = some v → v.ownBlock = some k → some k ≠ v2.ownBlock) (hf : Frm w.heap.size (XR b v2) w w') (hv : w'.ownsRow B 109 2 v2 ps2.length (cellsP ps2)) : RowsAt w' B vr (vs ++ [v2]) (pss ++ [ps2]) := by
  have hv0 := h.row vs.length v2 ps2 (by simp) (by rw [hl]; simp)
  refine ⟨ownsRow_frm h.own hf (fun k hk => ⟨(h.own.lt k hk).2, ?_⟩), h.len, ?_, h.bd⟩
  · rintro (e | e)
    · have := (h.own.lt k hk).1; omega
    · rcases own_apart hv0 h.own (by decide) with h1 | h1
      · rw [h1] at e; cases e
      · exact h1 (e.symm.trans hk.symm)
  · intro i v ps h1 h2
    have h0 := h.row i v ps h1 h2
    by_cases hi : i < vs.length
    · rw [List.getElem?_append_left hi] at h1
      refine ownsRow_frm h0 hf (fun k hk => ⟨(h0.lt k hk).2, ?_⟩)
      rintro (e | e)
      · have := (h0.lt k hk).1; omega
      · exact hne i v k h1 hk e
    · rw [List.getElem?_append_right (by omega)] at h1
      rw [List.getElem?_append_right (by rw [← hl]; omega)] at h2
      rw [← hl] at h2
      match hk : i - vs.length, h1, h2 with
      | 0, h1, h2 =>
        simp at h1 h2
        subst h1 h2
        exact hv
      | k + 1, h1, h2 => simp at h1

theorem RdR.clear {b : Nat} {t : ByteArray} {v v' : Value} {w w1 : World} {a : Nat} {ps : List Pt} (h : RdR b t v w w1 a v' ps) : RdR b t v w (w1.setCell ⟨b, 2, none⟩ (.slice none 0 0)) a (.slice none 0 0) [] := by
  refine h.trans ⟨⟨?_, World.ownsRow_nil _ _ _ _, h.rd.le, Nat.zero_le _, h.rd.sz⟩, (Frm.refl _ _ _).setCell (.inr (.inl rfl)) _, .inr (fun k hk => by simp [Value.ownBlock] at hk)⟩
  have := h.rd.blk.set 2 (.slice none 0 0)
  simpa using this

/-- Where the loop over the rows stands. -/
def RLoop (l : List UInt8) (more : Bool) (l' : List UInt8) (pss : List (List Pt)) : Prop :=
  (more = true → ∃ rows, RowSt l l' rows pss) ∧ (more = false → ∃ l1 rows pss0 ps, RowSt l l1 rows pss0 ∧ Exp l1 true l' ps ∧ ¬ hd l' = 59 ∧ pss = pss0 ++ [ps])

set_option maxRecDepth 100000 in
set_option maxHeartbeats 4000000 in
theorem rows_any (b : Nat) (t : ByteArray) (p : Nat) (v : Value) (ps : List Pt) (w : World) (h : Rd w b t p v ps) :
    Calls Tryd.prog 46 #[.pointer (some ⟨b, 0, none⟩)] w fun e w' => ∃ ok vr p' v' ps' rows pss, e = .returned (.tuple #[vr, .bool ok]) ∧ RowEnd ((L t).drop p) ok ((L t).drop p') rows pss ∧
      (ok = true → ∃ vs, RowsAt w' w.heap.size vr vs pss) ∧ (ok = false → vr = .slice none 0 0) ∧ p ≤ p' ∧ RdR b t v w w' p' v' ps' := by
  obtain ⟨ii, hi, hz0, hz1, hz2⟩ := info_parts info_row
  have hsz := h.sz
  have Hfr := hide h.fresh
  have hbw := h.blk.lt
  have H := hide h
  clear h
  go_enter Tryd.func46, Tryd.ntmps46
  go_wp2_with fail
  go_loopg [4, 5] (2 * (t.size - p) + 1) (fun m vr mo wr => ∃ k, ∃ more : Bool, ∃ v1 ps1 vs pss, p ≤ k ∧ k ≤ t.size ∧ m = 2 * (t.size - k) + (if more then 1 else 0) ∧ mo = .bool more ∧ vs.length ≤ k ∧ Hid (RLoop ((L t).drop p) more ((L t).drop k) pss) ∧
      Hid (RowsAt wr w.heap.size vr vs pss) ∧ Hid (RdR b t v w wr k v1 ps1))
  case atStart => exact ⟨p, true, v, ps, [], [], Nat.le_refl _, (unhide H).le, rfl, rfl, Nat.zero_le _, ⟨fun _ => ⟨[], RowSt.start _⟩, (fun h0 => by cases h0)⟩, RowsAt.nil _ _, RdR.refl (unhide H)⟩
  case round =>
    obtain ⟨k, more, v1, ps1, vs, pss, hpk, hk, rfl, rfl, hpl, Hl, Ho, Hr⟩ := hrel
    have hwr := (unhide Hr).frm.size
    obtain ⟨aop, capp, hvp⟩ := ownsRow_form (unhide Ho).own
    subst hvp
    have c2 := (unhide Hr).rd.c2
    have z2 := (unhide Hr).rd.z2
    cases more with
    | true =>
      have Hrc := hide (unhide Hr).clear
      have Hoc : Hid (RowsAt (wr.setCell ⟨b, 2, none⟩ (.slice none 0 0)) w.heap.size (.slice aop vs.length capp) vs pss) :=
        (unhide Ho).frm (X := fun j => j = b) (Frm.setCell (X := fun j => j = b) (Frm.refl _ _ _) (p := ⟨b, 2, none⟩) (.inr rfl) _) (fun j hj _ e => by omega)
      go_wp2_with fail
      refine (expression_any b t k (.slice none 0 0) [] _ (unhide Hrc).rd).mono ?_
      rintro e w1 ⟨ok, k1, v2, ps2, rfl, hexp, hle, hr1⟩
      rw [List.nil_append] at hr1
      have Hr1 := hide hr1
      have H1 := hide ((unhide Hrc).trans hr1)
      have Ho1 := hide ((unhide Hoc).frm hr1.frm (fun j hj _ hx => by rcases hx with hx | hx; omega; simp [Value.ownBlock] at hx))
      have hk1 := hr1.rd.le
      have Hexp := hide hexp
      clear hr1 hexp
      cases ok with
      | false =>
        go_wp2_with fail
        go_ret2
        obtain ⟨rows, hst⟩ := (unhide Hl).1 rfl
        exact ⟨false, _, k1, v2, ps2, [], [], rfl, hst.no (unhide Hexp) [] [], (fun h0 => by cases h0), fun _ => rfl, by omega, unhide H1⟩
      | true =>
        have Hv2 : Hid (w1.ownsRow w.heap.size 109 2 v2 ps2.length (cellsP ps2)) := by
          refine ownsRow_base (unhide Hr1).rd.own (fun j hj => ?_)
          rcases (unhide Hr1).own with e | e
          · rw [e] at hj; simp [Value.ownBlock] at hj
          · have := e j hj; simp [World.setCell] at this; omega
        have Hne : Hid (∀ (i : Nat) x j, vs[i]? = some x → x.ownBlock = some j → some j ≠ v2.ownBlock) := by
          intro i x j hx hj e
          obtain ⟨q, hq⟩ : ∃ q, pss[i]? = some q := by
            have := (List.getElem?_eq_some_iff.1 hx).1
            exact ⟨pss[i]'(by rw [← (unhide Ho).len]; exact this), List.getElem?_eq_getElem _⟩
          have h1 := (((unhide Hoc).row i x q hx hq).lt j hj).2
          rcases (unhide Hr1).own with e2 | e2
          · rw [e2] at e; simp [Value.ownBlock] at e
          · have := e2 j e.symm; omega
        obtain ⟨ao2, cap2, hv2⟩ := ownsRow_form (unhide Hv2)
        subst hv2
        have d2 := (unhide Hr1).rd.c2
        have hsz1 := (unhide H1).frm.size
        have hlt : k < k1 := by
          obtain ⟨x, hx, g1, _⟩ := unhide Hexp
          have hs := (g1 rfl).2.1
          have hl := congrArg List.length hx
          simp only [List.length_append, List.length_drop, L_length] at hl
          have hn : 0 < x.length := Nat.lt_of_lt_of_le hs.pos (bare_le x)
          omega
        clear c2 z2
        go_wp2_with (first
          | (at_builtin; refine wpList_append_own _ rfl (.tmp 15) (.tmp 21) 44 rfl w.heap.size 74 ii (.agg #[.slice none 0 0]) 1 24 Tryd.underlying44 hi hz0 hz1 hz2 rfl (by decide) (.slice aop vs.length capp) vs.length _ rfl ((unhide Ho1).own.alloc _) ⟨w1.heap.size, 0, none⟩ 1 1 [.slice ao2 ps2.length cap2] rfl rfl (cell_one_new _ _ _) (fun x hx => by simp at hx; subst hx; rfl) (by unfold maxLen; omega) (by omega) (by simp; omega) ?_; intro vr' w5 hown5 hgr5 _; obtain ⟨gf, cf, rfl, hgf, hgf'⟩ := ownsRow_some hown5 (Nat.succ_pos _)))
        have Ho5 := hide ((unhide Ho1).snoc _ (unhide Hv2) hown5 hgr5 (by omega))
        have H5 := hide (((unhide H1).alloc _).grown hgr5 (fun j hj => ⟨((unhide Ho1).own.lt j hj).1, by
          rintro (e | e)
          · have := ((unhide Ho1).own.lt j hj).1; omega
          · rcases own_apart (unhide Hv2) (unhide Ho1).own (by decide) with h1 | h1
            · rw [h1] at e; cases e
            · exact h1 (e.symm.trans hj.symm)⟩))
        clear hown5 hgr5
        go_wp2_with fail
        refine (accept_any b t k1 _ ps2 59 _ (unhide H5).rd (by omega)).mono ?_
        rintro e w6 ⟨k2, x2, hs2, ⟨hn2, rfl, hr2⟩ | ⟨y2, hy2, hl2, rfl, hr2⟩⟩
        · have Heq := hide (skp_same hs2 (got_H (unhide Hexp)).1)
          have H6 := hide ((unhide H5).trans hr2)
          have Ho6 := hide ((unhide Ho5).reader (unhide Ho).len hbw (unhide Hne) hr2.frm (ownsRow_base hr2.rd.own (fun j hj => ((unhide Hv2).lt j hj).1)))
          have hk2 := hr2.rd.le
          have hle2 := hs2.le
          have Hn2 := hide hn2
          clear hs2 hn2 hr2
          go_wp2_with fail
          go_roundg (2 * (t.size - k2) + 0)
          case measure => simp; omega
          case rel =>
            refine ⟨k2, false, _, _, _, _, by omega, hk2, by simp, rfl, ?_, ⟨(fun h0 => by cases h0), fun _ => ?_⟩, unhide Ho6, unhide H6⟩
            · simp; omega
            · obtain ⟨rows, hst⟩ := (unhide Hl).1 rfl
              exact ⟨_, rows, pss, ps2, hst, by rw [← unhide Heq]; exact unhide Hexp, unhide Hn2, rfl⟩
        · have hnb := (got_H (unhide Hexp)).1
          have Heq := hide (skp_same hs2 hnb)
          have H6 := hide ((unhide H5).trans hr2)
          have Ho6 := hide ((unhide Ho5).reader (unhide Ho).len hbw (unhide Hne) hr2.frm (ownsRow_base hr2.rd.own (fun j hj => ((unhide Hv2).lt j hj).1)))
          have hk2 := hr2.rd.le
          have hle2 := hs2.le
          have Hy2 := hide hy2
          have Hl2 := hide hl2
          clear hs2 hy2 hl2 hr2 hnb
          go_wp2_with fail
          go_roundg (2 * (t.size - (k2 + 1)) + 1)
          case measure => simp; omega
          case rel =>
            refine ⟨k2 + 1, true, _, _, _, _, by omega, hk2, by simp, rfl, ?_, ⟨fun _ => ?_, (fun h0 => by cases h0)⟩, unhide Ho6, unhide H6⟩
            · simp; omega
            · obtain ⟨rows, hst⟩ := (unhide Hl).1 rfl
              obtain ⟨e, he⟩ := hst.semi (by rw [← unhide Hl2, ← unhide Heq]; exact unhide Hexp) (unhide Hy2)
              exact ⟨_, he⟩
    | false =>
      obtain ⟨l1, rows, pss0, ps0, hst, hexp, h59, rfl⟩ := (unhide Hl).2 rfl
      have Hst := hide hst
      have Hexp := hide hexp
      have H59 := hide h59
      have c0 := (unhide Hr).rd.c0
      have c1 := (unhide Hr).rd.c1
      clear hst hexp h59 c2 z2
      by_cases hlt : k < t.size
      · have d1 : decide ((k : Int) < (t.size : Int)) = true := by simp; omega
        go_wp2_with fail
        go_quiet (fail)
        go_wp2_with fail
        go_ret2
        exact ⟨false, _, k, v1, ps1, [], [], rfl, (unhide Hst).fin_no (unhide Hexp) (unhide H59) (by rw [L_drop t k hlt]; simp) [] [], (fun h0 => by cases h0), fun _ => rfl, hpk, (unhide Hr).draws _⟩
      · have d1 : decide ((k : Int) < (t.size : Int)) = false := by simp; omega
        have Hz := hide (L_drop_end t k (by omega))
        go_wp2_with fail
        go_quiet (fail)
        go_wp2_with fail
        go_ret2
        obtain ⟨e, he⟩ := (unhide Hst).fin_yes (by rw [← unhide Hz]; exact unhide Hexp)
        refine ⟨true, .slice aop vs.length capp, k, v1, ps1, rows ++ [e], pss0 ++ [ps0], rfl, by rw [unhide Hz]; exact he, fun _ => ⟨vs, ?_⟩, (fun h0 => by cases h0), hpk, (unhide Hr).draws _⟩
        exact ⟨(unhide Ho).own, (unhide Ho).len, (unhide Ho).row, (unhide Ho).bd⟩

end Go.Proofs.YtpcdkhmahbecaaaDoor
