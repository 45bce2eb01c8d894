/- Walks of the reader: readForm. -/
import Derived.Test.YtpcdkhmahbecaaaDoorRdJ
namespace Db

theorem rowOk_of {e : List UInt8} {ps : List Pt} (h : ExpS e ps) (hl : e.length ≤ 200) : RowOk e ps := by
  refine ⟨h.wf, ?_, ?_, hl, h.num⟩
  · have := h.old [] trivial
    simpa using this
  · intro row
    have := h.rch row []
    simpa [rch] using this
theorem form_of {l l1 : List UInt8} {pd : List (List UInt8 × List UInt8)} {rows : List (List UInt8)} {pss : List (List Pt)} {l2 : List UInt8} (hl : l.length ≤ 200) (hp : PerEnd l true l1 pd) (hr : RowEnd l1 true l2 rows pss) : Form l pd rows pss := by
  obtain ⟨⟨x, rfl, h1, _⟩, hd⟩ := hp
  obtain ⟨h2, y, h3, h4, h5⟩ := h1 rfl
  obtain ⟨g1, g2, g3, g4⟩ := hr.yes rfl
  refine ⟨?_, ⟨⟨y, bare l1, ?_, h4, g2⟩, hd rfl⟩, g4.1, ?_⟩
  · rw [h2, g1]
  · rw [bare_append, h3, List.append_assoc, List.cons_append, List.nil_append]
    exact split_two 124 y (bare l1) (fun c hc e => h5 c hc (by rw [e]; rfl)) (fun c hc e => g3 c hc (by rw [e]; rfl))
  · intro i e ps he hps
    refine rowOk_of (g4.2 i e ps he hps) ?_
    have hm : e ∈ split (bare l1) 59 := by rw [g2]; exact List.mem_of_getElem? he
    have h6 := split_le (bare l1) 59 e hm
    have h7 := bare_le l1
    simp at hl
    omega

end Db
namespace Go.Proofs.YtpcdkhmahbecaaaDoor
open Go.RowKit Db

theorem RowsAt.base {w : World} {B B' : Nat} {vr : Value} {vs : List Value} {pss : List (List Pt)} (h : RowsAt w B vr vs pss) (hB : B' ≤ B) : RowsAt w B' vr vs pss :=
  ⟨ownsRow_base h.own (fun k hk => Nat.le_trans hB (h.own.lt k hk).1), h.len, fun i v ps h1 h2 => ownsRow_base (h.row i v ps h1 h2) (fun k hk => Nat.le_trans hB ((h.row i v ps h1 h2).lt k hk).1), h.bd⟩
theorem fail_place {t : ByteArray} {p p' : Nat} {x : List UInt8} (h : (L t).drop p = x ++ (L t).drop p') (hp : p ≤ p') (hp' : p' ≤ t.size) : (p : Int) + x.length = p' := by
  have hl := congrArg List.length h
  simp only [List.length_append, List.length_drop, L_length] at hl
  omega

/-- What readForm answers. -/
def FormR (w : World) (t : ByteArray) (e : Ending) (w' : World) : Prop :=
  (∃ p : Int, e = .returned (.tuple #[.agg #[.slice none 0 0, .slice none 0 0], .int .i64 p, .bool false]) ∧ plc 0 0 0 0 (L t) = p ∧ 0 ≤ p ∧ Below w.heap.size w w') ∨
  (∃ vp vr pd rows pss vs, e = .returned (.tuple #[.agg #[vp, vr], .int .i64 0, .bool true]) ∧ Db.Form (L t) pd rows pss ∧ w'.ownsRow w.heap.size 70 2 vp pd.length (cellsD pd) ∧ RowsAt w' w.heap.size vr vs pss ∧ Below w.heap.size w w')

set_option maxRecDepth 100000 in
set_option maxHeartbeats 4000000 in
theorem readForm_any (t : ByteArray) (w : World) (hsz : t.size ≤ 200) :
    Calls Tryd.prog 22 #[.string t] w fun e w' => FormR w t e w' := by
  have H0 : Hid (Rd ((w.alloc (.cells #[.slice none 0 0, .slice none 0 0] 46)).alloc (.cells #[.string t, .int .i64 0, .slice none 0 0] 103)) (w.heap.size + 1) t 0 (.slice none 0 0) []) := by
    refine ⟨?_, World.ownsRow_nil _ _ _ _, Nat.zero_le _, Nat.zero_le _, hsz⟩
    have := Blk.new (w.alloc (.cells #[.slice none 0 0, .slice none 0 0] 46)) #[.string t, .int .i64 0, .slice none 0 0] 103
    simpa using this
  go_enter Tryd.func22, Tryd.ntmps22
  go_wp2_with fail
  refine (periods_any (w.heap.size + 1) t 0 (.slice none 0 0) [] _ (unhide H0)).mono ?_
  rintro e w1 ⟨ok, vp, p1, pd, rfl, hpe, hvp, hnp, hle1, hr1⟩
  have hs1 := hr1.frm.size
  simp at hs1
  have HB1 : Hid (Blk w1 w.heap.size #[.slice none 0 0, .slice none 0 0] 46) := ((Blk.new _ _ _).alloc _).frm hr1.frm (by simp; omega) (by rintro (h | h); omega; simp [Value.ownBlock] at h)
  have Hb1 : Hid (Below w.heap.size w w1) := (((Below.refl _ _).alloc (Nat.le_refl _) _).alloc (by simp) _).trans (hr1.frm.below (by simp; omega) (fun k hk => by rintro (h | h); omega; simp [Value.ownBlock] at h))
  have Hr1 := hide hr1
  have Hpe := hide hpe
  have c0 := (unhide HB1).cell 0
  have c1 := (unhide HB1).cell 1
  have z0 := (unhide HB1).frozen 0
  have z1 := (unhide HB1).frozen 1
  have d1 := hr1.rd.c1
  have hpz := hr1.rd.le
  simp only [List.getElem?_toArray, List.getElem?_cons_zero, List.getElem?_cons_succ] at c0 c1
  clear hr1 hpe
  cases ok with
  | false =>
    obtain rfl := hnp rfl
    clear hvp hnp
    go_wp2_with fail
    go_region
    go_wp2_with fail
    refine bodyPost_ret (v := .tuple #[.agg #[.slice none 0 0, .slice none 0 0], .int .i64 p1, .bool false]) (by simp [results, Tryd.results22, go_sem, c0, c1]) rfl (.inl ⟨p1, rfl, ?_, by omega, ?_⟩)
    · obtain ⟨⟨x, hx, _, h2⟩, _⟩ := unhide Hpe
      have h3 := h2 rfl 0
      have h4 := fail_place hx hle1 hpz
      rw [List.drop_zero] at h3
      rw [h3]
      simpa using h4
    · exact (((unhide Hb1).drew).setCell (by simp) _).setCell (by simp) _
  | true =>
    have hvp := hvp rfl
    obtain ⟨aop, capp, rfl⟩ := ownsRow_form hvp
    have Hvp := hide hvp
    clear hvp hnp
    go_wp2_with fail
    refine (rows_any (w.heap.size + 1) t p1 (.slice none 0 0) [] _ (unhide Hr1).rd).mono ?_
    rintro e w2 ⟨ok, vr, p2, v2, ps2, rows, pss, rfl, hre, hvr, hnr, hle2, hr2⟩
    have hs2 := hr2.frm.size
    have HB2 : Hid (Blk w2 w.heap.size #[.slice none 0 0, .slice none 0 0] 46) := (unhide HB1).frm hr2.frm (by omega) (by rintro (h | h); omega; simp [Value.ownBlock] at h)
    have Hb2 : Hid (Below w.heap.size w w2) := (unhide Hb1).trans (hr2.frm.below (by omega) (fun k hk => by rintro (h | h); omega; simp [Value.ownBlock] at h))
    have Hvp2 : Hid (w2.ownsRow w.heap.size 70 2 (.slice aop pd.length capp) pd.length (cellsD pd)) := by
      have hb : ∀ k, (Value.slice aop pd.length capp).ownBlock = some k → w.heap.size + 2 ≤ k ∧ k < w1.heap.size := fun k hk => by
        have := (unhide Hvp).lt k hk; simp at this; omega
      exact ownsRow_base (ownsRow_frm (unhide Hvp) hr2.frm (fun k hk => ⟨(hb k hk).2, by rintro (h | h); have := hb k hk; omega; simp [Value.ownBlock] at h⟩)) (fun k hk => by have := hb k hk; omega)
    have Hre := hide hre
    have e0 := (unhide HB2).cell 0
    have e1 := (unhide HB2).cell 1
    have y0 := (unhide HB2).frozen 0
    have y1 := (unhide HB2).frozen 1
    have d2 := hr2.rd.c1
    have hpz2 := hr2.rd.le
    simp only [List.getElem?_toArray, List.getElem?_cons_zero, List.getElem?_cons_succ] at e0 e1
    clear hr2 hre c0 c1 z0 z1 d1
    cases ok with
    | false =>
      obtain rfl := hnr rfl
      clear hvr hnr
      go_wp2_with fail
      go_region
      go_wp2_with fail
      refine bodyPost_ret (v := .tuple #[.agg #[.slice none 0 0, .slice none 0 0], .int .i64 p2, .bool false]) (by simp [results, Tryd.results22, go_sem, e0, e1]) rfl (.inl ⟨p2, rfl, ?_, by omega, ?_⟩)
      · obtain ⟨⟨x, hx, h2, _⟩, _⟩ := unhide Hpe
        obtain ⟨y, hy, h5⟩ := (unhide Hre).no rfl
        have h3 := (h2 rfl).1 0
        have h4 := fail_place hx hle1 hpz
        have h6 := fail_place hy hle2 hpz2
        rw [List.drop_zero] at h3
        rw [h3, h5]
        simp at h4 ⊢
        omega
      · exact (((unhide Hb2).drew).setCell (by simp) _).setCell (by simp) _
    | true =>
      obtain ⟨vs, hvs⟩ := hvr rfl
      obtain ⟨aor, capr, rfl⟩ := ownsRow_form hvs.own
      have Hvs := hide hvs
      clear hvr hnr hvs
      go_wp2_with fail
      refine bodyPost_ret (v := .tuple #[.agg #[.slice aop pd.length capp, .slice aor vs.length capr], .int .i64 0, .bool true]) (by simp [results, Tryd.results22, go_sem, e0, e1]) rfl (.inr ⟨_, _, pd, rows, pss, vs, rfl, ?_, ?_, ?_, ?_⟩)
      · refine form_of (by rw [L_length]; exact hsz) (l1 := (L t).drop p1) (l2 := (L t).drop p2) ?_ (unhide Hre)
        have := unhide Hpe
        rwa [List.drop_zero] at this
      · exact ownsRow_setOther (ownsRow_setOther (unhide Hvp2) (fun e => by have := (unhide Hvp).lt _ e.symm; simp at this; omega) _) (fun e => by have := (unhide Hvp).lt _ e.symm; simp at this; omega) _
      · refine RowsAt.base ((unhide Hvs).frm (X := fun k => k = w.heap.size) (Frm.setCell (X := fun k => k = w.heap.size) (Frm.setCell (X := fun k => k = w.heap.size) (Frm.refl _ _ _) (p := ⟨w.heap.size, 0, none⟩) (.inr rfl) _) (p := ⟨w.heap.size, 1, none⟩) (.inr rfl) _) (fun k hk _ h => by omega)) (by omega)
      · exact ((unhide Hb2).setCell (by simp) _).setCell (by simp) _

end Go.Proofs.YtpcdkhmahbecaaaDoor
