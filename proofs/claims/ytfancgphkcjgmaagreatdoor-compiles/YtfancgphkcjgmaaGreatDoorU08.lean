/- Walks of the reader: readForm. Walks of the check: wrongPeriod, NamesRow, wrongName. Walks of the check: kinds. Codes: the program's coder: workOut as a whole; lay. Show: the plain form, by a pile of pieces; digits without noughts ahead. Walks of Show: numerals, signs, brackets. Reports: the document's within and taken. Walks of the document's answer: value, bare, split. -/
import Derived.Test.YtfancgphkcjgmaaGreatDoorU07
import Derived.Test.YtfancgphkcjgmaaGreatDoorU02
import Derived.WalkSmall
import Derived.Lib.ItoaNum
import Derived.Lib.ItoaMem
import Derived.Test.YtfancgphkcjgmaaGreatDoorU01
import Derived.Test.YtfancgphkcjgmaaGreatDoorU04
import Derived.Lib.AppendIntMem
import Derived.Laws.IdiomStrings
import Derived.Test.YtfancgphkcjgmaaGreatDoorU03
import Derived.Deep.LoopGhost
namespace Db

theorem rowOk_of {e : List UInt8} {ps : List Pt} (h : ExpS e ps) (hl : e.length ≤ 200) : RowOk e ps := by
  refine ⟨h.wf, ?_, ?_, ?_, hl, h.num⟩
  · have := h.old [] trivial
    simpa using this
  · intro row
    have := h.rch row []
    simpa [rch] using this
  · intro q
    have := h.sel q [] (by rfl)
    simpa [strg] using this
theorem form_of {l l1 : List UInt8} {pd : List (List UInt8 × List UInt8)} {rows : List (List UInt8)} {pss : List (List Pt)} {l2 : List UInt8} (hl : l.length ≤ 200) (hp : PerEnd l true l1 pd) (hr : RowEnd l1 true l2 rows pss) : Form l pd rows pss := by
  obtain ⟨⟨x, rfl, h1, _⟩, hd⟩ := hp
  obtain ⟨h2, y, h3, h4, h5⟩ := h1 rfl
  obtain ⟨g1, g2, g3, g4⟩ := hr.yes rfl
  refine ⟨?_, ⟨⟨y, bare l1, ?_, h4, g2⟩, hd rfl⟩, g4.1, ?_⟩
  · rw [h2, g1]
  · rw [bare_append, h3, List.append_assoc, List.cons_append, List.nil_append]
    exact split_two 124 y (bare l1) (fun c hc e => h5 c hc (by rw [e]; rfl)) (fun c hc e => g3 c hc (by rw [e]; rfl))
  · intro i e ps he hps
    refine rowOk_of (g4.2 i e ps he hps) ?_
    have hm : e ∈ split (bare l1) 59 := by rw [g2]; exact List.mem_of_getElem? he
    have h6 := split_le (bare l1) 59 e hm
    have h7 := bare_le l1
    simp at hl
    omega

end Db
namespace Go.Proofs.YtfancgphkcjgmaaGreatDoor
open Go.RowKit Db

theorem RowsAt.base {w : World} {B B' : Nat} {vr : Value} {vs : List Value} {pss : List (List Pt)} (h : RowsAt w B vr vs pss) (hB : B' ≤ B) : RowsAt w B' vr vs pss :=
  ⟨ownsRow_base h.own (fun k hk => Nat.le_trans hB (h.own.lt k hk).1), h.len, fun i v ps h1 h2 => ownsRow_base (h.row i v ps h1 h2) (fun k hk => Nat.le_trans hB ((h.row i v ps h1 h2).lt k hk).1), h.bd⟩
theorem fail_place {t : ByteArray} {p p' : Nat} {x : List UInt8} (h : (L t).drop p = x ++ (L t).drop p') (hp : p ≤ p') (hp' : p' ≤ t.size) : (p : Int) + x.length = p' := by
  have hl := congrArg List.length h
  simp only [List.length_append, List.length_drop, L_length] at hl
  omega

/-- What readForm answers. -/
def FormR (w : World) (t : ByteArray) (e : Ending) (w' : World) : Prop :=
  (∃ p : Int, e = .returned (.tuple #[.agg #[.slice none 0 0, .slice none 0 0], .int .i64 p, .bool false]) ∧ plc 0 0 0 0 (L t) = p ∧ 0 ≤ p ∧ Below w.heap.size w w') ∨
  (∃ vp vr pd rows pss vs, e = .returned (.tuple #[.agg #[vp, vr], .int .i64 0, .bool true]) ∧ Db.Form (L t) pd rows pss ∧ w'.ownsRow w.heap.size 189 2 vp pd.length (cellsD pd) ∧ RowsAt w' w.heap.size vr vs pss ∧ Below w.heap.size w w')

set_option maxRecDepth 100000 in
set_option maxHeartbeats 4000000 in
theorem readForm_any (t : ByteArray) (w : World) (hsz : t.size ≤ 200) :
    Calls Tryz.prog 80 #[.string t] w fun e w' => FormR w t e w' := by
  have H0 : Hid (Rd ((w.alloc (.cells #[.slice none 0 0, .slice none 0 0] 109)).alloc (.cells #[.string t, .int .i64 0, .slice none 0 0] 183)) (w.heap.size + 1) t 0 (.slice none 0 0) []) := by
    refine ⟨?_, World.ownsRow_nil _ _ _ _, Nat.zero_le _, Nat.zero_le _, hsz⟩
    have := Blk.new (w.alloc (.cells #[.slice none 0 0, .slice none 0 0] 109)) #[.string t, .int .i64 0, .slice none 0 0] 183
    simpa using this
  go_enter Tryz.func80, Tryz.ntmps80
  go_wp2_with fail
  refine (periods_any (w.heap.size + 1) t 0 (.slice none 0 0) [] _ (unhide H0)).mono ?_
  rintro e w1 ⟨ok, vp, p1, pd, rfl, hpe, hvp, hnp, hle1, hr1⟩
  have hs1 := hr1.frm.size
  simp at hs1
  have HB1 : Hid (Blk w1 w.heap.size #[.slice none 0 0, .slice none 0 0] 109) := ((Blk.new _ _ _).alloc _).frm hr1.frm (by simp; omega) (by rintro (h | h); omega; simp [Value.ownBlock] at h)
  have Hb1 : Hid (Below w.heap.size w w1) := (((Below.refl _ _).alloc (Nat.le_refl _) _).alloc (by simp) _).trans (hr1.frm.below (by simp; omega) (fun k hk => by rintro (h | h); omega; simp [Value.ownBlock] at h))
  have Hr1 := hide hr1
  have Hpe := hide hpe
  have c0 := (unhide HB1).cell 0
  have c1 := (unhide HB1).cell 1
  have z0 := (unhide HB1).frozen 0
  have z1 := (unhide HB1).frozen 1
  have d1 := hr1.rd.c1
  have hpz := hr1.rd.le
  simp only [List.getElem?_toArray, List.getElem?_cons_zero, List.getElem?_cons_succ] at c0 c1
  clear hr1 hpe
  cases ok with
  | false =>
    obtain rfl := hnp rfl
    clear hvp hnp
    go_wp2_with fail
    go_region
    go_wp2_with fail
    refine bodyPost_ret (v := .tuple #[.agg #[.slice none 0 0, .slice none 0 0], .int .i64 p1, .bool false]) (by simp [results, Tryz.results80, go_sem, c0, c1]) rfl (.inl ⟨p1, rfl, ?_, by omega, ?_⟩)
    · obtain ⟨⟨x, hx, _, h2⟩, _⟩ := unhide Hpe
      have h3 := h2 rfl 0
      have h4 := fail_place hx hle1 hpz
      rw [List.drop_zero] at h3
      rw [h3]
      simpa using h4
    · exact (((unhide Hb1).drew).setCell (by simp) _).setCell (by simp) _
  | true =>
    have hvp := hvp rfl
    obtain ⟨aop, capp, rfl⟩ := ownsRow_form hvp
    have Hvp := hide hvp
    clear hvp hnp
    go_wp2_with fail
    refine (rows_any (w.heap.size + 1) t p1 (.slice none 0 0) [] _ (unhide Hr1).rd).mono ?_
    rintro e w2 ⟨ok, vr, p2, v2, ps2, rows, pss, rfl, hre, hvr, hnr, hle2, hr2⟩
    have hs2 := hr2.frm.size
    have HB2 : Hid (Blk w2 w.heap.size #[.slice none 0 0, .slice none 0 0] 109) := (unhide HB1).frm hr2.frm (by omega) (by rintro (h | h); omega; simp [Value.ownBlock] at h)
    have Hb2 : Hid (Below w.heap.size w w2) := (unhide Hb1).trans (hr2.frm.below (by omega) (fun k hk => by rintro (h | h); omega; simp [Value.ownBlock] at h))
    have Hvp2 : Hid (w2.ownsRow w.heap.size 189 2 (.slice aop pd.length capp) pd.length (cellsD pd)) := by
      have hb : ∀ k, (Value.slice aop pd.length capp).ownBlock = some k → w.heap.size + 2 ≤ k ∧ k < w1.heap.size := fun k hk => by
        have := (unhide Hvp).lt k hk; simp at this; omega
      exact ownsRow_base (ownsRow_frm (unhide Hvp) hr2.frm (fun k hk => ⟨(hb k hk).2, by rintro (h | h); have := hb k hk; omega; simp [Value.ownBlock] at h⟩)) (fun k hk => by have := hb k hk; omega)
    have Hre := hide hre
    have e0 := (unhide HB2).cell 0
    have e1 := (unhide HB2).cell 1
    have y0 := (unhide HB2).frozen 0
    have y1 := (unhide HB2).frozen 1
    have d2 := hr2.rd.c1
    have hpz2 := hr2.rd.le
    simp only [List.getElem?_toArray, List.getElem?_cons_zero, List.getElem?_cons_succ] at e0 e1
    clear hr2 hre c0 c1 z0 z1 d1
    cases ok with
    | false =>
      obtain rfl := hnr rfl
      clear hvr hnr
      go_wp2_with fail
      go_region
      go_wp2_with fail
      refine bodyPost_ret (v := .tuple #[.agg #[.slice none 0 0, .slice none 0 0], .int .i64 p2, .bool false]) (by simp [results, Tryz.results80, go_sem, e0, e1]) rfl (.inl ⟨p2, rfl, ?_, by omega, ?_⟩)
      · obtain ⟨⟨x, hx, h2, _⟩, _⟩ := unhide Hpe
        obtain ⟨y, hy, h5⟩ := (unhide Hre).no rfl
        have h3 := (h2 rfl).1 0
        have h4 := fail_place hx hle1 hpz
        have h6 := fail_place hy hle2 hpz2
        rw [List.drop_zero] at h3
        rw [h3, h5]
        simp at h4 ⊢
        omega
      · exact (((unhide Hb2).drew).setCell (by simp) _).setCell (by simp) _
    | true =>
      obtain ⟨vs, hvs⟩ := hvr rfl
      obtain ⟨aor, capr, rfl⟩ := ownsRow_form hvs.own
      have Hvs := hide hvs
      clear hvr hnr hvs
      go_wp2_with fail
      refine bodyPost_ret (v := .tuple #[.agg #[.slice aop pd.length capp, .slice aor vs.length capr], .int .i64 0, .bool true]) (by simp [results, Tryz.results80, go_sem, e0, e1]) rfl (.inr ⟨_, _, pd, rows, pss, vs, rfl, ?_, ?_, ?_, ?_⟩)
      · refine form_of (by rw [L_length]; exact hsz) (l1 := (L t).drop p1) (l2 := (L t).drop p2) ?_ (unhide Hre)
        have := unhide Hpe
        rwa [List.drop_zero] at this
      · exact ownsRow_setOther (ownsRow_setOther (unhide Hvp2) (fun e => by have := (unhide Hvp).lt _ e.symm; simp at this; omega) _) (fun e => by have := (unhide Hvp).lt _ e.symm; simp at this; omega) _
      · refine RowsAt.base ((unhide Hvs).frm (X := fun k => k = w.heap.size) (Frm.setCell (X := fun k => k = w.heap.size) (Frm.setCell (X := fun k => k = w.heap.size) (Frm.refl _ _ _) (p := ⟨w.heap.size, 0, none⟩) (.inr rfl) _) (p := ⟨w.heap.size, 1, none⟩) (.inr rfl) _) (fun k hk _ h => by omega)) (by omega)
      · exact ((unhide Hb2).setCell (by simp) _).setCell (by simp) _

end Go.Proofs.YtfancgphkcjgmaaGreatDoor
namespace Go.Proofs.YtfancgphkcjgmaaGreatDoor
open Go.RowKit Db

theorem ownsRow_len {w : World} {base : Nat} {e : TypeId} {size : Nat} {v : Value} {n : Nat} {xs : List Value} (h : w.ownsRow base e size v n xs) : n ≤ maxLen := by
  rcases h.2 with ⟨_, rfl⟩ | ⟨g, cap, cur, _, _, _, h1, h2, _⟩
  · exact Nat.zero_le _
  · exact Nat.le_trans h1 h2
theorem pair_get {α : Type} (f g : α → Value) (l : List α) : ∀ (k : Nat) (a : α), l[k]? = some a → (l.flatMap fun x => [f x, g x])[k * 2]? = some (f a) ∧ (l.flatMap fun x => [f x, g x])[k * 2 + 1]? = some (g a) := by
  induction l with
  | nil => intro k a h; simp at h
  | cons x t ih =>
    intro k a h
    cases k with
    | zero => simp at h; subst h; simp
    | succ k =>
      have := ih k a (by simpa using h)
      simp only [List.flatMap_cons]
      rw [show (k + 1) * 2 = k * 2 + 1 + 1 by omega, show k * 2 + 1 + 1 + 1 = (k * 2 + 1) + 1 + 1 by omega]
      simpa using this

/-- A number, or how many there are where it is none. -/
def orLen (i : Int) (n : Nat) : Int := if 0 ≤ i then i else n
theorem orLen_pos {i : Int} {n : Nat} (h : 0 ≤ i) : orLen i n = i := if_pos h
theorem orLen_neg {i : Int} {n : Nat} (h : ¬ 0 ≤ i) : orLen i n = n := if_neg h

set_option maxRecDepth 100000 in
set_option maxHeartbeats 1000000 in
theorem wrongPeriod_any (vp : Value) (pd : List (List UInt8 × List UInt8)) (B : Nat) (w : World) (h : w.ownsRow B 189 2 vp pd.length (cellsD pd)) :
    Calls Tryz.prog 81 #[vp] w fun e w' => e = .returned (.int .i64 (orLen (badP 0 (pdv pd)) pd.length)) ∧ Below w.heap.size w w' := by
  have hml := ownsRow_len h
  unfold maxLen at hml
  obtain ⟨ao, cap, rfl⟩ := ownsRow_form h
  have H := hide h
  clear h
  go_enter Tryz.func81, Tryz.ntmps81
  go_wp2_with fail
  go_loopw [7] (fun i wr => ∃ k : Nat, k ≤ pd.length ∧ i = .int .i64 k ∧ Hid (badP k ((pdv pd).drop k) = badP 0 (pdv pd)) ∧ Hid (Below w.heap.size w wr)) (fun i _ => pd.length - (intOf i).toNat)
  case atStart => exact ⟨0, by omega, rfl, rfl, Below.refl _ _⟩
  case round =>
    obtain ⟨k, hk, rfl, Hp, Hb⟩ := hrel
    by_cases hlt : k < pd.length
    · obtain ⟨pk, hpk⟩ : ∃ pk, pd[k]? = some pk := ⟨pd[k], List.getElem?_eq_getElem hlt⟩
      have hpv : (pdv pd)[k]? = some (val pk.1, val pk.2) := by simp [pdv, hpk]
      have Hst := hide (badP_step hpv)
      obtain ⟨g, _, e1, hg, hg'⟩ := ownsRow_some (unhide H) (by omega)
      simp only [Value.slice.injEq, true_and] at e1
      obtain ⟨rfl, rfl⟩ := e1
      have hro := ownsRow_frm (unhide H) (X := fun _ => False) (unhide Hb).frm (fun j hj => ⟨((unhide H).lt j hj).2, fun h => h⟩)
      have hc := pair_get (fun p : List UInt8 × List UInt8 => Value.int .i64 (val p.1)) (fun p => Value.int .i64 (val p.2)) pd k pk hpk
      have c1 := ownsRow_cell hro (j := k * 2) hc.1
      have c2 := ownsRow_cell hro (j := k * 2 + 1) hc.2
      clear hro hc hpv hpk
      obtain ⟨x1, hx1⟩ : ∃ x1, val pk.1 = x1 := ⟨_, rfl⟩
      obtain ⟨x2, hx2⟩ : ∃ x2, val pk.2 = x2 := ⟨_, rfl⟩
      rw [hx1] at c1
      rw [hx2] at c2
      have Hst' : Hid (badP k ((pdv pd).drop k) = if x2 < x1 then (k : Int) else badP ((k + 1 : Nat) : Int) ((pdv pd).drop (k + 1))) := by show _ = _; rw [unhide Hst, hx1, hx2]
      have hsz := (unhide Hb).size
      clear hx1 hx2 Hst
      by_cases hbad : x2 < x1
      · have Hv : Hid (badP 0 (pdv pd) = k) := by show _ = _; rw [← unhide Hp, unhide Hst', if_pos hbad]
        go_wp2_with fail
        go_ret
        exact ⟨retI (by rw [unhide Hv, orLen_pos (by omega)]), (unhide Hb).alloc hsz _⟩
      · have Hst2 : Hid (badP k ((pdv pd).drop k) = badP ((k + 1 : Nat) : Int) ((pdv pd).drop (k + 1))) := by show _ = _; rw [unhide Hst', if_neg hbad]
        go_wp2_with fail
        go_roundw
        case rel => exact ⟨k + 1, by omega, by go_num, by show _ = _; rw [← unhide Hp, unhide Hst2], (unhide Hb).alloc hsz _⟩
        case measure => simp [intOf]; omega
    · have Hv : Hid (badP 0 (pdv pd) = -1) := by
        show _ = _
        rw [← unhide Hp, List.drop_eq_nil_of_le (by simp [pdv]; omega)]; rfl
      go_wp2_with fail
      go_ret
      exact ⟨retI (by rw [unhide Hv, orLen_neg (by omega)]), unhide Hb⟩

set_option maxRecDepth 100000 in
set_option maxHeartbeats 1000000 in
theorem namesRow_any (s n : Int) (w : World) :
    Calls Tryz.prog 123 #[.agg #[.int .u8 s, .int .i64 n]] w fun e w' => e = .returned (.bool (oldB s)) ∧ Below w.heap.size w w' := by
  by_cases h1 : (s == 36) = true
  all_goals
    have Hs : Hid (oldB s = ((s == 36) || (s == 60))) := rfl
    go_enter Tryz.func123, Tryz.ntmps123
    go_wp2_with fail
    go_ret
    exact ⟨by rw [unhide Hs]; simp_all, (Below.refl _ _).alloc (Nat.le_refl _) _⟩

/-- A row's names, from its k-th part on. -/
theorem nameB_step {row : Int} {ps : List Pt} {k : Nat} {p : Pt} (h : ps[k]? = some p) : nameB row (ps.drop k) = ((oldB p.1 && decide (row ≤ p.2)) || nameB row (ps.drop (k + 1))) := by
  obtain ⟨hi, rfl⟩ := List.getElem?_eq_some_iff.1 h
  rw [List.drop_eq_getElem_cons hi]; rfl

set_option maxRecDepth 100000 in
set_option maxHeartbeats 2000000 in
theorem wrongName_any (vr : Value) (vs : List Value) (pss : List (List Pt)) (B : Nat) (w : World) (h : RowsAt w B vr vs pss) :
    Calls Tryz.prog 82 #[vr] w fun e w' => e = .returned (.int .i64 (orLen (badN 0 pss) pss.length)) ∧ Below w.heap.size w w' := by
  have hml := ownsRow_len h.own
  have Hlen := hide h.len
  unfold maxLen at hml
  obtain ⟨ao, cap, rfl⟩ := ownsRow_form h.own
  have H := hide h
  clear h
  go_enter Tryz.func82, Tryz.ntmps82
  go_wp2_with fail
  go_loopw [9] (fun i wr => ∃ k : Nat, k ≤ vs.length ∧ i = .int .i64 k ∧ Hid (badN k (pss.drop k) = badN 0 pss) ∧ Hid (Below w.heap.size w wr)) (fun i _ => vs.length - (intOf i).toNat)
  case atStart => exact ⟨0, by omega, rfl, rfl, Below.refl _ _⟩
  case round =>
    obtain ⟨k, hk, rfl, Hp, Hb⟩ := hrel
    obtain ⟨wo, hwo⟩ : ∃ wo, wo = wr := ⟨_, rfl⟩
    subst hwo
    by_cases hlt : k < vs.length
    · obtain ⟨vk, hvk⟩ : ∃ vk, vs[k]? = some vk := ⟨vs[k], List.getElem?_eq_getElem hlt⟩
      obtain ⟨pk, hpk⟩ : ∃ pk, pss[k]? = some pk := ⟨pss[k]'(by rw [← unhide Hlen]; exact hlt), List.getElem?_eq_getElem _⟩
      have Hst := hide (badN_step hpk)
      have hrk := (unhide H).row k vk pk hvk hpk
      have hpl := ownsRow_len hrk
      unfold maxLen at hpl
      obtain ⟨aok, capk, rfl⟩ := ownsRow_form hrk
      obtain ⟨g, _, e1, hg, hg'⟩ := ownsRow_some (unhide H).own (by omega)
      simp only [Value.slice.injEq, true_and] at e1
      obtain ⟨rfl, rfl⟩ := e1
      have c1 := ownsRow_cell (ownsRow_frm (unhide H).own (X := fun _ => False) (unhide Hb).frm (fun j hj => ⟨((unhide H).own.lt j hj).2, fun h => h⟩)) (j := k) hvk
      have Hrk := hide (ownsRow_frm hrk (X := fun _ => False) (unhide Hb).frm (fun j hj => ⟨(hrk.lt j hj).2, fun h => h⟩))
      have hsz := (unhide Hb).size
      clear hrk hvk hpk
      go_wp2_with fail
      go_loopw [17] (fun i w2 => ∃ j : Nat, j ≤ pk.length ∧ i = .int .i64 j ∧ Hid (nameB k (pk.drop j) = nameB k pk) ∧ Hid (Below wo.heap.size wo w2) ∧ wo.heap.size < w2.heap.size) (fun i _ => pk.length - (intOf i).toNat)
      case atStart => exact ⟨0, by omega, rfl, rfl, (Below.refl _ _).alloc (Nat.le_refl _) _, by simp⟩
      case round =>
        obtain ⟨j, hj, rfl, Hn, Hb2, hsz2⟩ := hrel
        by_cases hltj : j < pk.length
        · obtain ⟨pj, hpj⟩ : ∃ pj, pk[j]? = some pj := ⟨pk[j], List.getElem?_eq_getElem hltj⟩
          have Hns := hide (nameB_step (row := k) hpj)
          obtain ⟨g2, _, e1, hg2, hg2'⟩ := ownsRow_some (unhide Hrk) (by omega)
          simp only [Value.slice.injEq, true_and] at e1
          obtain ⟨rfl, rfl⟩ := e1
          have hc := pair_get (fun p : Pt => Value.int .u8 p.1) (fun p => Value.int .i64 p.2) pk j pj hpj
          have hro := ownsRow_below (unhide Hrk) (unhide Hb2)
          have d1 := ownsRow_cell hro (j := j * 2) hc.1
          have d2 := ownsRow_cell hro (j := j * 2 + 1) hc.2
          clear hro hc hpj
          obtain ⟨s, n⟩ := pj
          simp only at d1 d2 Hns
          go_wp2_with fail
          refine (namesRow_any s n _).mono ?_
          rintro e w3 ⟨rfl, hb3⟩
          have f1 := hb3.cell (p := ⟨wr.heap.size, 1, none⟩) (by simp)
          have hb3s := hb3.size
          simp at f1 hb3s
          have Hb3 : Hid (Below wo.heap.size wo w3) := ((unhide Hb2).alloc (by omega) _).then' (by simp; omega) hb3
          clear hb3
          cases ho : oldB s with
          | true =>
            by_cases hge : (k : Int) ≤ n
            · have Hv : Hid (badN 0 pss = k) := by
                show _ = _
                rw [← unhide Hp, unhide Hst, ← unhide Hn, unhide Hns, ho]
                simp [hge]
              go_wp2_with fail
              go_ret
              exact ⟨retI (by rw [unhide Hv, orLen_pos (by omega)]), (unhide Hb).then' hsz (unhide Hb3)⟩
            · have Hns2 : Hid (nameB k (pk.drop j) = nameB k (pk.drop (j + 1))) := by show _ = _; rw [unhide Hns, ho]; simp; omega
              go_wp2_with fail
              go_roundw
              case rel => exact ⟨j + 1, by omega, by go_num, by show _ = _; rw [← unhide Hn, unhide Hns2], unhide Hb3, by omega⟩
              case measure => simp [intOf]; omega
          | false =>
            have Hns2 : Hid (nameB k (pk.drop j) = nameB k (pk.drop (j + 1))) := by show _ = _; rw [unhide Hns, ho]; simp
            go_wp2_with fail
            go_roundw
            case rel => exact ⟨j + 1, by omega, by go_num, by show _ = _; rw [← unhide Hn, unhide Hns2], unhide Hb3, by omega⟩
            case measure => simp [intOf]; omega
        · have Hst2 : Hid (badN k (pss.drop k) = badN ((k + 1 : Nat) : Int) (pss.drop (k + 1))) := by
            show _ = _
            have : nameB k pk = false := by rw [← unhide Hn, List.drop_eq_nil_of_le (by omega)]; rfl
            rw [unhide Hst, this]; rfl
          go_wp2_with fail
          go_roundw
          case rel => exact ⟨k + 1, by omega, by go_num, by show _ = _; rw [← unhide Hp, unhide Hst2], (unhide Hb).then' hsz (unhide Hb2)⟩
          case measure => simp [intOf]; omega
    · have Hv : Hid (badN 0 pss = -1) := by
        show _ = _
        rw [← unhide Hp, List.drop_eq_nil_of_le (by rw [← unhide Hlen]; omega)]; rfl
      go_wp2_with fail
      go_ret
      exact ⟨retI (by rw [unhide Hv, orLen_neg (by omega), ← unhide Hlen]), unhide Hb⟩

end Go.Proofs.YtfancgphkcjgmaaGreatDoor
namespace Go.Proofs.YtfancgphkcjgmaaGreatDoor
open Go.RowKit Db

theorem retB {a b : Bool} (h : a = b) : Ending.returned (.bool a) = .returned (.bool b) := by rw [h]

set_option maxRecDepth 100000 in
set_option maxHeartbeats 1000000 in
theorem isOperand_any (s n : Int) (w : World) :
    Calls Tryz.prog 165 #[.agg #[.int .u8 s, .int .i64 n]] w fun e w' => e = .returned (.bool (opdB s)) ∧ Below w.heap.size w w' := by
  by_cases h1 : s = 48
  · subst h1
    go_enter Tryz.func165, Tryz.ntmps165
    go_wp2_with fail
    go_ret
    exact ⟨rfl, (Below.refl _ _).alloc (Nat.le_refl _) _⟩
  by_cases h2 : s = 64
  · subst h2
    go_enter Tryz.func165, Tryz.ntmps165
    go_wp2_with fail
    go_ret
    exact ⟨rfl, (Below.refl _ _).alloc (Nat.le_refl _) _⟩
  by_cases h3 : s = 33
  · subst h3
    go_enter Tryz.func165, Tryz.ntmps165
    go_wp2_with fail
    go_ret
    exact ⟨rfl, (Below.refl _ _).alloc (Nat.le_refl _) _⟩
  by_cases h4 : s = 35
  · subst h4
    go_enter Tryz.func165, Tryz.ntmps165
    go_wp2_with fail
    go_ret
    exact ⟨rfl, (Below.refl _ _).alloc (Nat.le_refl _) _⟩
  by_cases h5 : s = 36
  · subst h5
    go_enter Tryz.func165, Tryz.ntmps165
    go_wp2_with fail
    go_ret
    exact ⟨rfl, (Below.refl _ _).alloc (Nat.le_refl _) _⟩
  by_cases h6 : s = 60
  · subst h6
    go_enter Tryz.func165, Tryz.ntmps165
    go_wp2_with fail
    go_ret
    exact ⟨rfl, (Below.refl _ _).alloc (Nat.le_refl _) _⟩
  have Hs : Hid (opdB s = false) := by show _ = _; simp [opdB, selB, oldB, h1, h2, h3, h4, h5, h6]
  have n1 : (s == 48) = false := by simpa using h1
  have n2 : (s == 64) = false := by simpa using h2
  have n3 : (s == 33) = false := by simpa using h3
  have n4 : (s == 35) = false := by simpa using h4
  have n5 : (s == 36) = false := by simpa using h5
  have n6 : (s == 60) = false := by simpa using h6
  clear h1 h2 h3 h4 h5 h6
  go_enter Tryz.func165, Tryz.ntmps165
  go_wp2_with fail
  go_ret
  exact ⟨retB (unhide Hs).symm, (Below.refl _ _).alloc (Nat.le_refl _) _⟩

set_option maxRecDepth 100000 in
set_option maxHeartbeats 1000000 in
theorem joinKinds_any (o l r : Int) (w : World) (ho : opB o = true) (hl : l = 0 ∨ l = 1) (hr : r = 0 ∨ r = 1) :
    Calls Tryz.prog 167 #[.int .u8 o, .int .i64 l, .int .i64 r] w fun e w' => e = .returned (.tuple #[.int .i64 (jk o l r).1, .bool (jk o l r).2]) ∧ w' = w := by
  simp [opB] at ho
  rcases ho with ((rfl | rfl) | rfl) | rfl <;> rcases hl with rfl | rfl <;> rcases hr with rfl | rfl
  all_goals
    go_enter Tryz.func167, Tryz.ntmps167
    go_wp2
    go_ret2
    exact ⟨rfl, rfl⟩

set_option maxRecDepth 100000 in
set_option maxHeartbeats 1000000 in
theorem operandKind_any (s n : Int) (v : Value) (ks : List Int) (B : Nat) (w : World) (hown : w.ownsRow B 193 1 v ks.length (ks.map (.int .i64))) (hks : ∀ x ∈ ks, x = 0 ∨ x = 1)
    (hn : oldB s = true → 0 ≤ n ∧ n.toNat < ks.length) :
    Calls Tryz.prog 166 #[.agg #[.int .u8 s, .int .i64 n], v] w fun e w' => ∃ k, e = .returned (.int .i64 k) ∧ (k = 0 ∨ k = 1) ∧ leafK (ks.map toR) (s, n) = toR k ∧ Below w.heap.size w w' := by
  have hml := ownsRow_len hown
  unfold maxLen at hml
  obtain ⟨ao, cap, rfl⟩ := ownsRow_form hown
  by_cases h1 : s = 64
  · subst h1
    go_enter Tryz.func166, Tryz.ntmps166
    go_wp2_with fail
    go_ret
    exact ⟨1, rfl, .inr rfl, rfl, (Below.refl _ _).alloc (Nat.le_refl _) _⟩
  by_cases h2 : s = 33
  · subst h2
    go_enter Tryz.func166, Tryz.ntmps166
    go_wp2_with fail
    go_ret
    exact ⟨1, rfl, .inr rfl, rfl, (Below.refl _ _).alloc (Nat.le_refl _) _⟩
  have n1 : (s == 64) = false := by simpa using h1
  have n2 : (s == 33) = false := by simpa using h2
  clear h1 h2
  cases ho : oldB s with
  | true =>
    obtain ⟨hn0, hnl⟩ := hn ho
    obtain ⟨m, rfl⟩ := Int.eq_ofNat_of_zero_le hn0
    rw [Int.toNat_natCast] at hnl
    obtain ⟨x, hx⟩ : ∃ x, ks[m]? = some x := ⟨ks[m], List.getElem?_eq_getElem hnl⟩
    have hx01 := hks x (List.mem_of_getElem? hx)
    obtain ⟨g, _, e1, hg, hg'⟩ := ownsRow_some hown (by omega)
    simp only [Value.slice.injEq, true_and] at e1
    obtain ⟨rfl, rfl⟩ := e1
    have c1 := ownsRow_cell hown (j := m) (u := .int .i64 x) (by simp [hx])
    have Hk : Hid (leafK (ks.map toR) (s, (m : Int)) = toR x) := by
      show _ = _
      unfold leafK
      simp [n1, n2, ho, hx]
    have hml2 : (m : Int) < (ks.length : Int) := by omega
    clear hown hks hn hx
    go_enter Tryz.func166, Tryz.ntmps166
    go_wp2_with fail
    refine (namesRow_any s m _).mono ?_
    rintro e w1 ⟨rfl, hb1⟩
    rw [ho]
    have f1 := hb1.cell (p := ⟨w.heap.size, 1, none⟩) (by simp)
    simp at f1
    have hb1s := hb1.size
    simp at hb1s
    have Hb : Hid (Below w.heap.size w w1) := ((Below.refl _ _).alloc (Nat.le_refl _) _).then' (by simp) hb1
    have f2 := ((unhide Hb).cell (p := ⟨g, m, none⟩) hg').trans c1
    clear hb1
    go_wp2_with fail
    go_ret
    exact ⟨x, rfl, hx01, unhide Hk, unhide Hb⟩
  | false =>
    have Hk : Hid (leafK (ks.map toR) (s, n) = toR 0) := by
      show _ = _
      unfold leafK
      simp [n1, n2, ho, toR]
    clear hown hks hn
    go_enter Tryz.func166, Tryz.ntmps166
    go_wp2_with fail
    refine (namesRow_any s n _).mono ?_
    rintro e w1 ⟨rfl, hb1⟩
    rw [ho]
    have Hb : Hid (Below w.heap.size w w1) := ((Below.refl _ _).alloc (Nat.le_refl _) _).then' (by simp) hb1
    clear hb1
    go_wp2_with fail
    go_ret
    exact ⟨0, rfl, .inl rfl, unhide Hk, unhide Hb⟩

end Go.Proofs.YtfancgphkcjgmaaGreatDoor
namespace Go.Proofs.YtfancgphkcjgmaaGreatDoor
open Go.RowKit Db

theorem fld_nil (p : Pt) : fld p [] = none := by
  unfold fld
  split
  · rfl
  · split <;> rfl
theorem snocP (ws : List Pt) : ws = [] ∨ ∃ q p, ws = q ++ [p] := by
  rcases List.eq_nil_or_concat ws with h | ⟨q, p, h⟩
  · exact .inl h
  · exact .inr ⟨q, p, by rw [h, List.concat_eq_append]⟩
theorem repl_some {c : Cl} {q x : List Pt} (h : c.2 = 0) : repl c q x = q ++ [(48, c.1)] := by unfold repl; rw [h]; rfl
theorem repl_none {c : Cl} {q x : List Pt} (h : ¬ c.2 = 0) : repl c q x = q ++ x := by unfold repl; rw [if_neg (by simpa using h)]

/-- workOut: what comes of the last words, if a number does. -/
theorem workOut_any (b : Nat) (v : Value) (ws : List Pt) (p : Pt) (w : World) (h : Cd w b v ws) (hl : ws.length ≤ 400) (hr : ∀ x ∈ ws, inR x.2 = true) (ho : opdB p.1 = false) :
    Calls Tryz.prog 168 #[.pointer (some ⟨b, 0, none⟩), .int .u8 p.1] w fun e w' => ∃ v', e = .returned (.bool (fld p ws.reverse).isSome) ∧ Cd w' b v' ((fld p ws.reverse).getD ws.reverse).reverse ∧ Frm w.heap.size (XR b v) w w' := by
  have hbl := h.blk.lt
  rcases snocP ws with rfl | ⟨q, y, rfl⟩
  · refine (workOut_no b v [] p.1 w h hl (by simp)).mono ?_
    rintro e w1 ⟨rfl, rfl⟩
    simp only [List.reverse_nil, fld_nil]
    exact ⟨v, rfl, h, Frm.refl _ _ _⟩
  · obtain ⟨y1, y2⟩ := y
    by_cases hy : y1 = 48
    · subst hy
      have hyr := hr (48, y2) (by simp)
      simp only at hyr
      by_cases h126 : p.1 = 126
      · have e126 : (p.1 == 126) = true := by simp [h126]
        rw [h126]
        refine (workOut_neg b v q y2 w h hl hyr).mono ?_
        rintro e w1 ⟨v', rfl, hc, hb⟩
        have hf : fld p (q ++ [(48, y2)]).reverse = if (don 45 (0, 0) (y2, 0)).2 == 0 then some ((48, (don 45 (0, 0) (y2, 0)).1) :: q.reverse) else none := by
          unfold fld
          rw [ho, e126]
          simp
        refine ⟨v', ?_, ?_, hb⟩
        · rw [hf]; cases ((don 45 (0, 0) (y2, 0)).2 == 0) <;> rfl
        · rw [hf]
          by_cases h0 : (don 45 (0, 0) (y2, 0)).2 = 0
          · rw [repl_some h0] at hc; rw [if_pos (by simpa using h0)]; simpa using hc
          · rw [repl_none h0] at hc; rw [if_neg (by simpa using h0)]; simpa using hc
      · have e126 : (p.1 == 126) = false := by simpa using h126
        rcases snocP q with rfl | ⟨q, x, rfl⟩
        · refine (workOut_one b v p.1 y2 w (by simpa using h) e126).mono ?_
          rintro e w1 ⟨rfl, hc, hb⟩
          have hf : fld p ([] ++ [((48 : Int), y2)]).reverse = none := by unfold fld; rw [ho, e126]; rfl
          exact ⟨v, by rw [hf]; rfl, by rw [hf]; simpa using hc, hb⟩
        · obtain ⟨x1, x2⟩ := x
          have happ : q ++ [(x1, x2)] ++ [((48 : Int), y2)] = q ++ [(x1, x2), (48, y2)] := by simp
          rw [happ] at h hl hr
          by_cases hx : x1 = 48
          · subst hx
            have hxr := hr (48, x2) (by simp)
            simp only at hxr
            refine (workOut_bin b v q p.1 x2 y2 w h hl hxr hyr e126).mono ?_
            rintro e w1 ⟨v', rfl, hc, hb⟩
            have hf : fld p (q ++ [((48 : Int), x2)] ++ [((48 : Int), y2)]).reverse = if (don p.1 (x2, 0) (y2, 0)).2 == 0 then some ((48, (don p.1 (x2, 0) (y2, 0)).1) :: q.reverse) else none := by
              unfold fld
              rw [ho, e126]
              simp
            refine ⟨v', ?_, ?_, hb⟩
            · rw [hf]; cases ((don p.1 (x2, 0) (y2, 0)).2 == 0) <;> rfl
            · rw [hf]
              by_cases h0 : (don p.1 (x2, 0) (y2, 0)).2 = 0
              · rw [repl_some h0] at hc; rw [if_pos (by simpa using h0)]; simpa using hc
              · rw [repl_none h0] at hc; rw [if_neg (by simpa using h0)]; simpa using hc
          · have ex : (x1 == 48) = false := by simpa using hx
            refine (workOut_two b v q p.1 x1 x2 y2 w h hl ex e126).mono ?_
            rintro e w1 ⟨rfl, hc, hb⟩
            have hf : fld p (q ++ [(x1, x2)] ++ [((48 : Int), y2)]).reverse = none := by
              unfold fld
              rw [ho, e126]
              simp [ex]
            exact ⟨v, by rw [hf]; rfl, by rw [hf]; simpa using hc, hb⟩
    · have ey : (y1 == 48) = false := by simpa using hy
      refine (workOut_no b v _ p.1 w h hl ?_).mono ?_
      · intro q' p' e
        have := List.append_inj' e rfl
        obtain ⟨_, e2⟩ := this
        simp at e2
        rw [← e2]; exact ey
      · rintro e w1 ⟨rfl, rfl⟩
        have hf : fld p (q ++ [(y1, y2)]).reverse = none := by
          unfold fld
          rw [ho]
          simp only [List.reverse_append, List.reverse_cons, List.reverse_nil, List.nil_append, List.cons_append]
          cases (p.1 == 126) with
          | true => simp [ey]
          | false =>
            simp only [Bool.false_eq_true, if_false]
            cases q.reverse with
            | nil => rfl
            | cons x t => simp [ey]
        exact ⟨v, by rw [hf]; rfl, by rw [hf]; simpa using h, Frm.refl _ _ _⟩

set_option maxRecDepth 100000 in
set_option maxHeartbeats 4000000 in
theorem lay_any (b : Nat) (v : Value) (ws : List Pt) (s n : Int) (w : World) (h : Cd w b v ws) (hl : ws.length < 400) (hr : ∀ x ∈ ws, inR x.2 = true) :
    Calls Tryz.prog 125 #[.pointer (some ⟨b, 0, none⟩), .agg #[.int .u8 s, .int .i64 n]] w fun e w' => e = .returned (.tuple #[]) ∧ (∃ v', Cd w' b v' (lay ws.reverse (s, n)).reverse) ∧ Below b w w' := by
  obtain ⟨ii, hi, hz0, hz1, hz2⟩ := info_parts info_part
  have hbl := h.blk.lt
  cases ho : opdB s with
  | true =>
    have hf : fld (s, n) ws.reverse = none := by unfold fld; rw [if_pos ho]
    have Hfin : Hid (∀ (w' : World) (v' : Value), Cd w' b v' (ws ++ [(s, n)]) → Cd w' b v' (lay ws.reverse (s, n)).reverse) := by
      intro w' v' hc
      unfold lay; rw [hf]; simpa using hc
    have H := hide h
    clear h hf hr
    go_enter Tryz.func125, Tryz.ntmps125
    go_wp2_with fail
    refine (isOperand_any s n _).mono ?_
    rintro e w3 ⟨rfl, hb3⟩
    rw [ho]
    have Hb3 : Hid (Below b w w3) := (((Below.refl _ _).alloc (Nat.le_refl _) _).then' (by simp) hb3).mono (Nat.le_of_lt hbl)
    have HC3 := hide (((unhide H).below ((Below.refl _ _).alloc (Nat.le_refl _) (.cells #[.int .u8 s, .int .i64 n] 191))).below hb3)
    have HX3 := hide ((Blk.new w #[.int .u8 s, .int .i64 n] 191).kept hb3)
    have hs3 := hb3.size
    simp at hs3
    clear hb3
    have hb3l := (unhide HC3).blk.lt
    obtain ⟨ao, cap, hvv⟩ := ownsRow_form (unhide HC3).own
    subst hvv
    have c0 := (unhide HC3).blk.cell 0
    have z0 := (unhide HC3).blk.frozen 0
    simp only [List.getElem?_toArray, List.getElem?_cons_zero] at c0
    obtain ⟨p0, p1, _, _, lp⟩ := two_cells (unhide HX3)
    have Hown2 := hide (unhide HC3).own
    have Hnb : Hid (Blk (w3.alloc (.cells #[.int .u8 s, .int .i64 n] 191)) w3.heap.size #[.int .u8 s, .int .i64 n] 191) := Blk.new _ _ _
    have Hne : Hid (some b ≠ (Value.slice ao ws.length cap).ownBlock) := own_ne' (unhide HC3).own (Nat.lt_succ_self b)
    have hne1 : w3.heap.size ≠ b := by omega
    have hne2 : w3.heap.size ≠ w.heap.size := by omega
    go_upto_region 4 with fail
    go_region_law (refine step_append_lies _ rfl (.tmp 17) (.tmp 19) 153 rfl (b + 1) 191 ii (.agg #[.int .u8 0, .int .i64 0]) 2 16 Tryz.underlying153 hi hz0 hz1 hz2 rfl (by decide) (.slice ao ws.length cap) ws.length _ (by simp [Act.eval]) (by first | exact ((unhide Hown2).alloc _).drew | exact ((unhide Hown2).alloc _)) ⟨w3.heap.size, 0, none⟩ 1 1 [.int .u8 s, .int .i64 n] (by simp [Act.eval]) rfl (World.news_of_block (by exact unhide Hnb)) (fun x hx => by simp at hx; rcases hx with rfl | rfl <;> rfl) (by decide) (by unfold maxLen; omega) (by omega) (by simp <;> omega) (w3.heap.size + 1) (by simp) ?_; intro g2 cap2 w5 hown5 hgr5 hat5 hlt5; have HB5 := hide (Blk.grown (cs := #[.slice ao ws.length cap]) (T := 198) (b := b) (by exact ((unhide HC3).blk.alloc _)) hgr5 (unhide Hne)); have y2 := (unhide HB5).frozen 0; have y3 := (unhide HB5).cell 0; simp only [List.getElem?_toArray, List.getElem?_cons_zero] at y3; have Hown5 := hide hown5; have Hgr5 := hide hgr5; have Hat5 := hide hat5; clear hown5 hgr5 hat5)
    all_goals
      go_wp2_with fail
      go_end0
      refine ⟨rfl, ⟨_, unhide Hfin _ _ (cd_pushed (unhide HB5) (unhide Hown5))⟩, ?_⟩
      exact ((((unhide Hb3).alloc (by omega) _).drew).grown (unhide Hgr5) (by simp; omega) (fun k hk => by have := ((unhide Hown2).lt k hk).1; omega)).setCell (Nat.le_refl b) _
  | false =>
    have Hwo := hide (fun (wx : World) (hb : Below w.heap.size w wx) => workOut_any b v ws (s, n) wx (h.below hb) (by omega) hr ho)
    have H := hide h
    obtain ⟨f, hf⟩ : ∃ f, fld (s, n) ws.reverse = f := ⟨_, rfl⟩
    have Hlay : Hid (lay ws.reverse (s, n) = f.getD ((s, n) :: ws.reverse)) := by show _ = _; unfold lay; rw [hf]
    rw [hf] at Hwo
    clear h hf hr
    go_enter Tryz.func125, Tryz.ntmps125
    go_wp2_with fail
    refine (isOperand_any s n _).mono ?_
    rintro e w2 ⟨rfl, hb2⟩
    rw [ho]
    have Hb2 : Hid (Below w.heap.size w w2) := ((Below.refl _ _).alloc (Nat.le_refl _) _).then' (by simp) hb2
    have HX2 := hide ((Blk.new w #[.int .u8 s, .int .i64 n] 191).kept hb2)
    obtain ⟨f0, f1, _, _, lf⟩ := two_cells (unhide HX2)
    have hs2 := hb2.size
    simp at hs2
    clear hb2
    go_wp2_with fail
    refine (unhide Hwo _ (unhide Hb2)).mono ?_
    rintro e w3 ⟨v', rfl, hc3, hb3⟩
    have HX3 : Hid (Blk w3 w.heap.size #[.int .u8 s, .int .i64 n] 191) := (unhide HX2).frm hb3 (by omega) (by
      rintro (e | e)
      · omega
      · have := ((unhide H).own.lt _ e.symm).2; omega)
    have Hb3 : Hid (Below b w w3) := ((unhide Hb2).mono (Nat.le_of_lt hbl)).trans (hb3.below (by omega) (by
      rintro k hk (e | e)
      · omega
      · have := ((unhide H).own.lt _ e.symm).1; omega))
    have hs3 : w.heap.size + 1 ≤ w3.heap.size := by have := hb3.size; omega
    clear hb3 f0 f1 lf
    cases f with
    | some qs =>
      have Hc3 : Hid (Cd w3 b v' (lay ws.reverse (s, n)).reverse) := by rw [unhide Hlay]; exact hc3
      clear hc3
      go_wp2_with fail
      refine bodyPost_ret (v := .tuple #[]) (by simp [results, Tryz.results125, go_sem]) rfl ⟨rfl, ⟨_, unhide Hc3⟩, unhide Hb3⟩
    | none =>
      have HC3 : Hid (Cd w3 b v' ws) := by show Cd _ _ _ _; simpa using hc3
      have Hfin : Hid (∀ (w' : World) (v' : Value), Cd w' b v' (ws ++ [(s, n)]) → Cd w' b v' (lay ws.reverse (s, n)).reverse) := by
        intro w' v' hc
        rw [unhide Hlay]; simpa using hc
      clear hc3
      have hb3l := (unhide HC3).blk.lt
      obtain ⟨ao, cap, hvv⟩ := ownsRow_form (unhide HC3).own
      subst hvv
      have c0 := (unhide HC3).blk.cell 0
      have z0 := (unhide HC3).blk.frozen 0
      simp only [List.getElem?_toArray, List.getElem?_cons_zero] at c0
      obtain ⟨p0, p1, _, _, lp⟩ := two_cells (unhide HX3)
      have Hown2 := hide (unhide HC3).own
      have Hnb : Hid (Blk (w3.alloc (.cells #[.int .u8 s, .int .i64 n] 191)) w3.heap.size #[.int .u8 s, .int .i64 n] 191) := Blk.new _ _ _
      have Hne : Hid (some b ≠ (Value.slice ao ws.length cap).ownBlock) := own_ne' (unhide HC3).own (Nat.lt_succ_self b)
      have hne1 : w3.heap.size ≠ b := by omega
      have hne2 : w3.heap.size ≠ w.heap.size := by omega
      go_upto_region 4 with fail
      go_region_law (refine step_append_lies _ rfl (.tmp 17) (.tmp 19) 153 rfl (b + 1) 191 ii (.agg #[.int .u8 0, .int .i64 0]) 2 16 Tryz.underlying153 hi hz0 hz1 hz2 rfl (by decide) (.slice ao ws.length cap) ws.length _ (by simp [Act.eval]) (by first | exact ((unhide Hown2).alloc _).drew | exact ((unhide Hown2).alloc _)) ⟨w3.heap.size, 0, none⟩ 1 1 [.int .u8 s, .int .i64 n] (by simp [Act.eval]) rfl (World.news_of_block (by exact unhide Hnb)) (fun x hx => by simp at hx; rcases hx with rfl | rfl <;> rfl) (by decide) (by unfold maxLen; omega) (by omega) (by simp <;> omega) (w3.heap.size + 1) (by simp) ?_; intro g2 cap2 w5 hown5 hgr5 hat5 hlt5; have HB5 := hide (Blk.grown (cs := #[.slice ao ws.length cap]) (T := 198) (b := b) (by exact ((unhide HC3).blk.alloc _)) hgr5 (unhide Hne)); have y2 := (unhide HB5).frozen 0; have y3 := (unhide HB5).cell 0; simp only [List.getElem?_toArray, List.getElem?_cons_zero] at y3; have Hown5 := hide hown5; have Hgr5 := hide hgr5; have Hat5 := hide hat5; clear hown5 hgr5 hat5)
      all_goals
        go_wp2_with fail
        go_end0
        refine ⟨rfl, ⟨_, unhide Hfin _ _ (cd_pushed (unhide HB5) (unhide Hown5))⟩, ?_⟩
        exact ((((unhide Hb3).alloc (by omega) _).drew).grown (unhide Hgr5) (by simp; omega) (fun k hk => by have := ((unhide Hown2).lt k hk).1; omega)).setCell (Nat.le_refl b) _

end Go.Proofs.YtfancgphkcjgmaaGreatDoor
namespace Db
open Go

/-- Digits without a 0 ahead of another digit. -/
def trm : List UInt8 → List UInt8
  | [] => []
  | [c] => [c]
  | c :: d :: r => if c.toNat = 48 then trm (d :: r) else c :: d :: r
theorem trm_zeros (z : List UInt8) (hz : ∀ c ∈ z, c.toNat = 48) (c : UInt8) : trm (z ++ [c]) = [c] := by
  induction z with
  | nil => rfl
  | cons x t ih =>
    have hx := hz x (by simp)
    have ih := ih (fun y hy => hz y (by simp [hy]))
    cases t with
    | nil => simp [trm, hx]
    | cons y r => simpa [trm, hx] using ih
theorem trm_snoc (ds : List UInt8) (h : ∃ x ∈ ds, ¬ x.toNat = 48) (c : UInt8) : trm (ds ++ [c]) = trm ds ++ [c] := by
  induction ds with
  | nil => obtain ⟨x, hx, _⟩ := h; cases hx
  | cons x t ih =>
    by_cases hx : x.toNat = 48
    · have h' : ∃ y ∈ t, ¬ y.toNat = 48 := by
        obtain ⟨y, hy, hn⟩ := h
        rw [List.mem_cons] at hy
        rcases hy with rfl | hy
        · exact absurd hx hn
        · exact ⟨y, hy, hn⟩
      have ih := ih h'
      cases t with
      | nil => obtain ⟨y, hy, _⟩ := h'; cases hy
      | cons y r => simpa [trm, hx] using ih
    · cases t with
      | nil => simp [trm, hx]
      | cons y r => simp [trm, hx]
theorem valGo_snoc' (l : List UInt8) (c : UInt8) : ∀ n, valGo n (l ++ [c]) = 10 * valGo n l + ((c.toNat : Int) - 48) := by
  induction l with
  | nil => intro n; rfl
  | cons x t ih => intro n; exact ih _
theorem val_zero (z : List UInt8) (hd : ∀ c ∈ z, digB c.toNat = true) (h : val z = 0) : ∀ c ∈ z, c.toNat = 48 := by
  have key : ∀ (z : List UInt8) (n : Int), 0 ≤ n → (∀ c ∈ z, digB c.toNat = true) → valGo n z = 0 → n = 0 ∧ ∀ c ∈ z, c.toNat = 48 := by
    intro z
    induction z with
    | nil => intro n _ _ h; exact ⟨h, by simp⟩
    | cons x t ih =>
      intro n hn hd h
      have hx := hd x (by simp)
      simp [digB] at hx
      have := ih (10 * n + ((x.toNat : Int) - 48)) (by omega) (fun c hc => hd c (by simp [hc])) h
      refine ⟨by omega, ?_⟩
      intro c hc
      rw [List.mem_cons] at hc
      rcases hc with rfl | hc
      · omega
      · exact this.2 c hc
  exact (key z 0 (by omega) hd h).2
theorem zero_val (z : List UInt8) (hz : ∀ c ∈ z, c.toNat = 48) : val z = 0 := by
  have : ∀ (z : List UInt8), (∀ c ∈ z, c.toNat = 48) → valGo 0 z = 0 := by
    intro z
    induction z with
    | nil => intro _; rfl
    | cons x t ih =>
      intro h
      have hx := h x (by simp)
      show valGo (10 * 0 + ((x.toNat : Int) - 48)) t = 0
      rw [hx]
      exact ih (fun c hc => h c (by simp [hc]))
  exact this z hz
theorem u8_of {c : UInt8} {n : Nat} (h : c.toNat = n) : UInt8.ofNat n = c := by rw [← h]; simp
/-- Digits without noughts ahead are those of their value. -/
theorem trm_dec (ds : List UInt8) (hn : ds ≠ []) (hd : ∀ c ∈ ds, digB c.toNat = true) : trm ds = Lib.decDigits (val ds).toNat := by
  have key : ∀ (r : List UInt8), (∀ c ∈ r, digB c.toNat = true) → r ≠ [] → trm r.reverse = Lib.decDigits (val r.reverse).toNat := by
    intro r
    induction r with
    | nil => intro _ h; exact absurd rfl h
    | cons c t ih =>
      intro hd _
      have hc := hd c (by simp)
      simp [digB] at hc
      have hdt : ∀ x ∈ t.reverse, digB x.toNat = true := fun x hx => hd x (by simp at hx; simp [hx])
      have hv : val (t.reverse ++ [c]) = 10 * val t.reverse + ((c.toNat : Int) - 48) := valGo_snoc' t.reverse c 0
      have hp := val_pos t.reverse hdt
      rw [List.reverse_cons]
      by_cases h0 : val t.reverse = 0
      · rw [trm_zeros _ (val_zero _ hdt h0), hv, h0, Lib.decDigits_one (by omega)]
        rw [u8_of (c := c) (by omega)]
      · have hex : ∃ x ∈ t.reverse, ¬ x.toNat = 48 := by
          apply Classical.byContradiction
          intro hne
          refine h0 (zero_val _ (fun x hx => ?_))
          apply Classical.byContradiction
          intro hx48
          exact hne ⟨x, hx, hx48⟩
        have htn : t ≠ [] := by intro e; subst e; obtain ⟨x, hx, _⟩ := hex; cases hx
        rw [trm_snoc _ hex, ih (fun x hx => hd x (by simp [hx])) htn, hv]
        have e1 : (10 * val t.reverse + ((c.toNat : Int) - 48)).toNat = 10 * (val t.reverse).toNat + (c.toNat - 48) := by omega
        rw [e1]
        conv => rhs; rw [Lib.decDigits]
        rw [dif_neg (by omega)]
        have e2 : (10 * (val t.reverse).toNat + (c.toNat - 48)) / 10 = (val t.reverse).toNat := by omega
        have e3 : (10 * (val t.reverse).toNat + (c.toNat - 48)) % 10 = c.toNat - 48 := by omega
        rw [e2, e3, u8_of (c := c) (by omega)]
  have := key ds.reverse (fun c hc => hd c (by simpa using hc)) (by simpa using hn)
  simpa using this

/-- A sign as a byte. -/
def u8 (s : Int) : UInt8 := UInt8.ofNat s.toNat
theorem u8_toNat (c : UInt8) : u8 (c.toNat : Int) = c := by simp [u8]
/-- A piece: its text, how firmly it holds. -/
abbrev Pc := List UInt8 × Nat
def brk (p : Pc) (least : Nat) : List UInt8 := if p.2 < least then 40 :: (p.1 ++ [41]) else p.1
def rkS (o : Int) : Nat := if o == 42 || o == 47 then 2 else 1
def wordP (p : Pt) : List UInt8 := if p.1 == 48 then Lib.itoa p.2 else u8 p.1 :: Lib.itoa p.2
def sEval : List Pt → List Pc → List Pc
  | [], st => st
  | p :: r, st => if opdB p.1 then sEval r ((wordP p, 3) :: st) else if p.1 == 126 then
      match st with
      | x :: t => sEval r ((45 :: brk x 3, 3) :: t)
      | [] => []
    else match st with
      | y :: x :: t => sEval r ((brk x (rkS p.1) ++ u8 p.1 :: brk y (rkS p.1 + 1), rkS p.1) :: t)
      | _ => st
def ShowR (ps : List Pt) (x : Pc) : Prop := ∀ q st, sEval (ps ++ q) st = sEval q (x :: st)
theorem ShowR.uniq {ps : List Pt} {x y : Pc} (h : ShowR ps x) (k : ShowR ps y) : x = y := by
  have h1 := h [] []
  have h2 := k [] []
  rw [h1] at h2
  simpa [sEval] using h2
theorem showR_leaf {p : Pt} (h : opdB p.1 = true) : ShowR [p] (wordP p, 3) := fun q st => by simp [sEval, h]
theorem showR_neg {ps : List Pt} {x : Pc} (h : ShowR ps x) : ShowR (ps ++ [(126, 0)]) (45 :: brk x 3, 3) := fun q st => by
  rw [List.append_assoc, h]; simp [sEval, opdB, selB, oldB]
theorem showR_bin {p q : List Pt} {x y : Pc} {o : Int} (ho : opB o = true) (hp : ShowR p x) (hq : ShowR q y) : ShowR (p ++ q ++ [(o, 0)]) (brk x (rkS o) ++ u8 o :: brk y (rkS o + 1), rkS o) := fun r st => by
  rw [List.append_assoc, List.append_assoc, hp, hq]
  have := opd_op ho
  simp [sEval, this.1, this.2]
/-- How firmly the operation holds that is worked out last. -/
def rkO (o : Int) : Nat := if o == 43 || o == 45 then 1 else if o == 42 || o == 47 then 2 else 3
theorem rkO_op {o : Int} (h : opB o = true) : rkO o = rkS o := by
  simp [opB] at h; rcases h with ((rfl | rfl) | rfl) | rfl <;> rfl
theorem wf_show {n : Nat} : ∀ {e : List UInt8} {ps : List Pt}, Wf n e ps → ∃ x, ShowR ps x := by
  induction n with
  | zero => intro e ps h; exact absurd h (by simp [Wf])
  | succ n ih =>
    intro e ps h
    rcases h with ⟨_, h⟩ | ⟨_, h2⟩ | ⟨_, p, h2, rfl⟩ | ⟨h1, p, r, h2, h3, rfl⟩
    · obtain ⟨p, rfl, hp⟩ := opnd_opd h
      exact ⟨_, showR_leaf hp⟩
    · exact ih h2
    · obtain ⟨x, hx⟩ := ih h2
      exact ⟨_, showR_neg hx⟩
    · obtain ⟨x, hx⟩ := ih h2
      obtain ⟨y, hy⟩ := ih h3
      exact ⟨_, showR_bin h1 hx hy⟩
/-- An operand in its plain form. -/
theorem opnd_word {e : List UInt8} {p : Pt} (h : Opnd e [p]) : wordP p = (if digB (hd e) then trm e else e.take 1 ++ trm (e.drop 1)) ∧ 1 ≤ e.length := by
  rcases h with ⟨h1, _, hd1, he⟩ | ⟨c, ds, rfl, h1, hd1, hs, he⟩
  · simp at he
    subst he
    have hn : e ≠ [] := by intro e0; subst e0; simp at h1
    refine ⟨?_, h1⟩
    have hh : digB (hd e) = true := by
      cases e with
      | nil => exact absurd rfl hn
      | cons c r => exact hd1 c (by simp)
    have hp := val_pos e hd1
    rw [hh, if_pos rfl, trm_dec e hn hd1]
    unfold wordP
    show Lib.itoa (val e) = _
    rw [Lib.itoa, if_neg (by omega)]
  · simp at he
    subst he
    refine ⟨?_, by simp⟩
    have hcd : digB (c.toNat : Int) = false := by
      rcases hs with ⟨hs, _⟩ | ⟨hs, _⟩
      · exact (sel_c hs).2.2.2
      · exact (old_c hs).2.2.2.1
    have hn : ds ≠ [] := by intro e0; subst e0; simp at h1
    have hp := val_pos ds hd1
    have h48 : ((c.toNat : Int) == 48) = false := by
      rw [beq_eq_false_iff_ne]; intro e0; rw [e0] at hcd; cases hcd
    unfold wordP
    simp only [hd, hcd, h48]
    simp only [Bool.false_eq_true, if_false]
    rw [Lib.itoa, if_neg (by omega), u8_toNat, List.drop_one, List.tail_cons, trm_dec ds hn hd1]
    simp

end Db
namespace Go.Proofs.YtfancgphkcjgmaaGreatDoor
open Go.RowKit Db

set_option maxRecDepth 100000 in
set_option maxHeartbeats 1000000 in
theorem signText_any (s : UInt8) (w : World) :
    Calls Tryz.prog 169 #[.int .u8 (s.toNat : Int)] w fun e w' => ∃ u : ByteArray, e = .returned (.string u) ∧ L u = [s] ∧ Below w.heap.size w w' := by
  have hcv : (convert 167 9 (.slice (some ⟨w.heap.size, 0, none⟩) 1 1)).run Tryz.prog (w.alloc (.cells #[.int .u8 (s.toNat : Int)] 5)) = .ok (.string ⟨#[s]⟩) (w.alloc (.cells #[.int .u8 (s.toNat : Int)] 5)) := by
    have := run_convert_bytes_back (P := Tryz.prog) (w.alloc (.cells #[.int .u8 (s.toNat : Int)] 5)) 167 9 5 ⟨w.heap.size, 0, none⟩ 1 [s] Tryz.underlying167 Tryz.underlying5 Tryz.underlying9 (fun j hj => by
      have h0 : j = 0 := by simpa using hj
      subst h0
      exact cell_one_new w _ _ 0 _ rfl)
    exact this
  go_enter Tryz.func169, Tryz.ntmps169
  go_wp2_with fail
  go_ret
  exact ⟨⟨#[s]⟩, rfl, rfl, (Below.refl _ _).alloc (Nat.le_refl _) _⟩

set_option maxHeartbeats 1000000 in
theorem bracketed_any (x : ByteArray) (r : Nat) (k : Int) (w : World) (hx : x.size ≤ 1000000) :
    Calls Tryz.prog 199 #[.agg #[.string x, .int .i64 (r : Int)], .int .i64 k] w fun e w' => ∃ u : ByteArray, e = .returned (.string u) ∧ L u = brk (L x, r) k.toNat ∧ Below w.heap.size w w' := by
  by_cases h : (r : Int) < k
  · have Hb : Hid (brk (L x, r) k.toNat = 40 :: (L x ++ [41])) := by show _ = _; unfold brk; rw [if_pos (by simp; omega)]
    go_enter Tryz.func199, Tryz.ntmps199
    go_wp2_with fail
    go_ret
    refine ⟨_, rfl, ?_, (Below.refl _ _).alloc (Nat.le_refl _) _⟩
    rw [unhide Hb]; simp [L]
  · have Hb : Hid (brk (L x, r) k.toNat = L x) := by show _ = _; unfold brk; rw [if_neg (by simp; omega)]
    go_enter Tryz.func199, Tryz.ntmps199
    go_wp2_with fail
    go_ret
    exact ⟨x, rfl, (unhide Hb).symm, (Below.refl _ _).alloc (Nat.le_refl _) _⟩

end Go.Proofs.YtfancgphkcjgmaaGreatDoor
namespace Go.Proofs.YtfancgphkcjgmaaGreatDoor
open Go.RowKit Db

set_option maxRecDepth 100000 in
set_option maxHeartbeats 2000000 in
theorem within_any (B p : Nat) (s : Bk) (a n : Int) (w : World) (h : Rfd w B p s) (ha : a < s.acs.length) :
    Calls Tryz.prog 172 #[.pointer (some ⟨p, 0, none⟩), .int .i64 a, .int .i64 n] w fun e w' => e = .returned (.bool (wth s.acs n 16 a)) ∧ w' = w := by
  obtain ⟨vp, vc, vt, tv, h⟩ := h
  obtain ⟨g, cap, rfl, hg, hg'⟩ := ownsRow_some h.par h.good.one
  have c0 := h.blk.cell 0
  simp only [List.getElem?_toArray, List.getElem?_cons_zero] at c0
  have hfew := h.good.few
  have H := hide h
  clear h
  go_enter Tryz.func172, Tryz.ntmps172
  go_wp2_with fail
  go_loopg [1, 7] 16 (fun m v i wr => ∃ j : Nat, ∃ x : Int, j ≤ 16 ∧ m = 16 - j ∧ i = .int .i64 j ∧ v = .int .i64 x ∧ x < s.acs.length ∧ Hid (wth s.acs n (16 - j) x = wth s.acs n 16 a) ∧ wr = w)
  case atStart => exact ⟨0, a, by omega, rfl, rfl, rfl, ha, rfl, rfl⟩
  case round =>
    obtain ⟨j, x, hj, rfl, rfl, rfl, hx, Ho, rfl⟩ := hrel
    by_cases hlt : j < 16
    · obtain ⟨f, hf⟩ : ∃ f, 16 - j = f + 1 := ⟨15 - j, by omega⟩
      have hw := unhide Ho
      rw [hf, wth_at] at hw
      by_cases h0 : x < 0
      · have hng : ¬ 0 ≤ x := by omega
        rw [if_pos h0] at hw
        have Hw := hide hw
        clear hw
        go_wp2_with fail
        go_ret
        exact ⟨retB' (unhide Hw), rfl⟩
      · rw [if_neg h0] at hw
        have h0' : 0 ≤ x := by omega
        by_cases hn : x = n
        · subst hn
          rw [if_pos (by simp)] at hw
          have Hw := hide hw
          clear hw
          go_wp2_with fail
          go_ret
          exact ⟨retB' (unhide Hw), rfl⟩
        · have hne : (x == n) = false := by simpa using hn
          rw [hne] at hw
          simp only [Bool.false_eq_true, if_false] at hw
          obtain ⟨k, rfl⟩ : ∃ k : Nat, x = k := ⟨x.toNat, by omega⟩
          have hk : k < s.acs.length := by omega
          obtain ⟨c, hc⟩ := acs_get hk
          rw [Int.toNat_natCast, List.getD_eq_getElem?_getD, hc, Option.getD_some] at hw
          have hord := (unhide H).good.ord _ _ hc
          have d := ownsRow_cell (unhide H).par (j := k) (u := .int .i64 c.1) (by rw [List.getElem?_map, hc]; rfl)
          have Hw := hide hw
          obtain ⟨c1, c2⟩ := c
          simp only at d hord Hw
          clear hw hc
          go_wp2_with fail
          go_roundg (16 - (j + 1))
          case measure => omega
          case rel => exact ⟨j + 1, c1, by omega, rfl, by go_num, rfl, by omega, by show _ = _; rw [show 16 - (j + 1) = f by omega]; exact unhide Hw, rfl⟩
    · obtain rfl : j = 16 := by omega
      have Hw : Hid (false = wth s.acs n 16 a) := (unhide Ho)
      clear Ho
      go_wp2_with fail
      go_ret
      exact ⟨retB' (unhide Hw), rfl⟩

set_option maxRecDepth 100000 in
set_option maxHeartbeats 8000000 in
theorem taken_any (B p : Nat) (s : Bk) (sel n a b : Int) (w : World) (h : Rfd w B p s) :
    Calls Tryz.prog 142 #[.pointer (some ⟨p, 0, none⟩), .int .u8 sel, .int .i64 n, .int .i64 a, .int .i64 b] w fun e w' => e = .returned (.tuple #[.int .i64 (tkT (inA s sel n) a b s.txs).1, .int .i64 (tkT (inA s sel n) a b s.txs).2]) ∧ Below w.heap.size w w' := by
  have Hwi := hide (fun (wx : World) (x : Int) (hx : x < s.acs.length) (h : Rfd wx B p s) => within_any B p s x n wx h hx)
  obtain ⟨vp, vc, vt, tv, h⟩ := h
  obtain ⟨ao, cap, rfl⟩ := ownsRow_form h.txs.own
  have c2 := h.blk.cell 2
  simp only [List.getElem?_toArray, List.getElem?_cons_zero, List.getElem?_cons_succ] at c2
  have hlen : tv.length ≤ 64 := by have := h.good.posts; rw [← h.jr, List.length_map] at this; exact this
  have Hjr := hide h.jr
  obtain ⟨q, hq⟩ : ∃ q, inA s sel n = q := ⟨_, rfl⟩
  have Hq := hide hq
  rw [hq]
  have H := hide h
  clear h hq
  go_enter Tryz.func142, Tryz.ntmps142
  go_wp2_with fail
  go_loopg [12, 13, 14] tv.length (fun m v u i wr => ∃ j : Nat, ∃ x : Int, ∃ c : Int, j ≤ tv.length ∧ m = tv.length - j ∧ i = .int .i64 j ∧ v = .int .i64 x ∧ u = .int .i64 c ∧ -(4000000000000 * (j : Int)) ≤ x ∧ x ≤ 4000000000000 * (j : Int) ∧ 0 ≤ c ∧ c ≤ 4 * (j : Int) ∧ Hid (x + (tkT q a b (s.txs.drop j)).1 = (tkT q a b s.txs).1 ∧ c + (tkT q a b (s.txs.drop j)).2 = (tkT q a b s.txs).2) ∧ Hid (Below w.heap.size w wr))
  case atStart => exact ⟨0, 0, 0, by omega, rfl, rfl, rfl, rfl, by omega, by omega, by omega, by omega, ⟨by simp, by simp⟩, Below.refl _ _⟩
  case round =>
    obtain ⟨j, x, c, hj, rfl, rfl, rfl, rfl, hx0, hx1, hc0, hc1, Ho, Hb⟩ := hrel
    have hsz := (unhide Hb).size
    have HB := hide ((unhide H).blk.kept (unhide Hb))
    have e2 := (unhide HB).cell 2
    simp only [List.getElem?_toArray, List.getElem?_cons_zero, List.getElem?_cons_succ] at e2
    by_cases hlt : j < tv.length
    · obtain ⟨⟨t, v⟩, ht⟩ : ∃ t, tv[j]? = some t := ⟨tv[j], List.getElem?_eq_getElem hlt⟩
      obtain ⟨g, _, e1, hg, hg'⟩ := ownsRow_some (unhide H).txs.own (by omega)
      simp only [Value.slice.injEq, true_and] at e1
      obtain ⟨rfl, rfl⟩ := e1
      have h3 := three_get (fun x : Tn × Value => Value.int .i64 x.1.1) (fun x => .int .i64 x.1.2.1) (fun x => x.2) tv j (t, v) ht
      have hro := ownsRow_below (unhide H).txs.own (unhide Hb)
      have d0 := ownsRow_cell hro (j := j * 3) h3.1
      have d1 := ownsRow_cell hro (j := j * 3 + 1) h3.2.1
      have d2 := ownsRow_cell hro (j := j * 3 + 2) h3.2.2
      have hmem := List.mem_of_getElem? ht
      have hl := (unhide H).txs.lns _ hmem
      have hst : s.txs[j]? = some t := by rw [← unhide Hjr, List.getElem?_map, ht]; rfl
      have hgt := (unhide H).good.tx t (List.mem_of_getElem? hst)
      have hga := (unhide H).good.acc t (List.mem_of_getElem? hst)
      have Hst := hide (tkT_O (q := q) (a := a) (b := b) hst)
      obtain ⟨ti, td, ls⟩ := t
      simp only at d0 d1 d2 hl hgt Hst hga
      obtain ⟨aol, capl, rfl⟩ := ownsRow_form hl
      have hl4 := hgt.2.2.2.2.1
      have Hlb := hide hgt.2.2.2.2.2
      have Hga := hide hga
      have Hl := hide (ownsRow_below hl (unhide Hb))
      clear h3 hro hmem hl hst hgt ht hga
      obtain ⟨ok, hok⟩ : ∃ ok, inD a b td = ok := ⟨_, rfl⟩
      rw [hok] at Hst
      go_wp2_with fail
      obtain ⟨W, hW⟩ : ∃ W, W = wr.alloc (.cells #[.int .i64 ti, .int .i64 td, .slice aol ls.length capl] 74) := ⟨_, rfl⟩
      have HbW : Hid (Below w.heap.size w W) := by rw [hW]; exact (unhide Hb).alloc hsz _
      have HlW : Hid (W.ownsRow B 76 2 (.slice aol ls.length capl) ls.length (cellsL ls)) := by rw [hW]; exact (unhide Hl).alloc _
      have HTx : Hid (Blk W wr.heap.size #[.int .i64 ti, .int .i64 td, .slice aol ls.length capl] 74) := by rw [hW]; exact Blk.new _ _ _
      have hWs : W.heap.size = wr.heap.size + 1 := by rw [hW]; simp
      rw [← hW]
      clear hW
      go_loopg [12, 13, 16] ls.length (fun m v u i wx => ∃ k : Nat, ∃ y : Int, ∃ z : Int, k ≤ ls.length ∧ m = ls.length - k ∧ i = .int .i64 k ∧ v = .int .i64 y ∧ u = .int .i64 z ∧ -(4000000000000 * (j : Int)) - 1000000000000 * (k : Int) ≤ y ∧ y ≤ 4000000000000 * (j : Int) + 1000000000000 * (k : Int) ∧ 0 ≤ z ∧ z ≤ 4 * (j : Int) + k ∧ Hid (y + (tkO ok q (ls.drop k)).1 = x + (tkO ok q ls).1 ∧ z + (tkO ok q (ls.drop k)).2 = c + (tkO ok q ls).2) ∧ wx = W)
      case atStart => exact ⟨0, x, c, by omega, rfl, rfl, rfl, rfl, by omega, by omega, by omega, by omega, ⟨by simp, by simp⟩, rfl⟩
      case round =>
        obtain ⟨k, y, z, hk, rfl, rfl, rfl, rfl, hy0, hy1, hz0, hz1, Hy, hWx⟩ := hrel
        subst hWx
        have hszW := (unhide HbW).size
        have t1 := (unhide HTx).cell 1
        have t2 := (unhide HTx).cell 2
        simp only [List.getElem?_toArray, List.getElem?_cons_zero, List.getElem?_cons_succ] at t1 t2
        by_cases hlt2 : k < ls.length
        · obtain ⟨⟨la, lm⟩, hlk⟩ : ∃ l, ls[k]? = some l := ⟨ls[k], List.getElem?_eq_getElem hlt2⟩
          obtain ⟨g2, _, e1, hg2, hg2'⟩ := ownsRow_some (unhide HlW) (by omega)
          simp only [Value.slice.injEq, true_and] at e1
          obtain ⟨rfl, rfl⟩ := e1
          have h2 := two_get (fun x : Ln => Value.int .i64 x.1) (fun x => .int .i64 x.2) ls k (la, lm) hlk
          have f0 := ownsRow_cell (unhide HlW) (j := k * 2) h2.1
          have f1 := ownsRow_cell (unhide HlW) (j := k * 2 + 1) h2.2
          have hb := unhide Hlb (la, lm) (List.mem_of_getElem? hlk)
          have hla := unhide Hga (la, lm) (List.mem_of_getElem? hlk)
          have Hyes := hide (tkO_yes (ok := ok) (q := q) hlk)
          have Hno := hide (tkO_no (ok := ok) (q := q) hlk)
          simp only at f0 f1 hb hla Hyes Hno
          clear h2 hlk
          obtain ⟨wv, hwv⟩ : ∃ wv, wth s.acs n 16 la = wv := ⟨_, rfl⟩
          have Hc := hide (unhide Hwi wr la hla ⟨_, _, _, _, (unhide H).kept (unhide HbW)⟩)
          rw [hwv] at Hc
          have Hwr : Hid (lm ≤ 1000000000000 ∧ -1000000000000 ≤ lm) := ⟨hb.2.2.2, hb.2.2.1⟩
          have hwr : IntKind.i64.wrap (y + lm) = y + lm := by rw [IntKind.wrap_i64]; omega
          have hwz : IntKind.i64.wrap (z + 1) = z + 1 := by rw [IntKind.wrap_i64]; omega
          clear hb
          go_wp2_with fail
          refine (unhide Hc).mono ?_
          rintro e w1 ⟨rfl, hw1⟩
          subst hw1
          have Hin : Hid (q la = if sel == 33 then la == n else wv) := by show _ = _; rw [← unhide Hq, ← hwv]; rfl
          clear hwv Hc
          by_cases hs : sel = 33
          · subst hs
            have Hin2 : Hid (q la = (la == n)) := by show _ = _; have := unhide Hin; simpa using this
            clear Hin
            cases hv : (la == n) with
            | false =>
              have Hn := hide (unhide Hno (.inl (by rw [unhide Hin2, hv])))
              go_wp2_with fail
              go_roundg (ls.length - (k + 1))
              case measure => omega
              case rel => exact ⟨k + 1, y, z, by omega, rfl, by go_num, rfl, rfl, by omega, by omega, by omega, by omega, by have h1 := unhide Hy; have h2 := unhide Hn; show _ ∧ _; omega, rfl⟩
            | true =>
              have Hqt : Hid (q la = true) := by show _ = _; rw [unhide Hin2, hv]
              by_cases e1 : a ≤ td
              · by_cases e2 : td ≤ b
                · have Hn := hide (unhide Hyes (by rw [← hok]; simp [inD, e1, e2]) (unhide Hqt))
                  go_wp2_with fail
                  go_roundg (ls.length - (k + 1))
                  case measure => omega
                  case rel => exact ⟨k + 1, y + lm, z + 1, by omega, rfl, by go_num, rfl, rfl, by have := unhide Hwr; omega, by have := unhide Hwr; omega, by omega, by omega, by have h1 := unhide Hy; have h2 := unhide Hn; show _ ∧ _; omega, rfl⟩
                · have Hn := hide (unhide Hno (.inr (by rw [← hok]; simp [inD, e2])))
                  go_wp2_with fail
                  go_roundg (ls.length - (k + 1))
                  case measure => omega
                  case rel => exact ⟨k + 1, y, z, by omega, rfl, by go_num, rfl, rfl, by omega, by omega, by omega, by omega, by have h1 := unhide Hy; have h2 := unhide Hn; show _ ∧ _; omega, rfl⟩
              · have Hn := hide (unhide Hno (.inr (by rw [← hok]; simp [inD, e1])))
                go_wp2_with fail
                go_roundg (ls.length - (k + 1))
                case measure => omega
                case rel => exact ⟨k + 1, y, z, by omega, rfl, by go_num, rfl, rfl, by omega, by omega, by omega, by omega, by have h1 := unhide Hy; have h2 := unhide Hn; show _ ∧ _; omega, rfl⟩
          · have hne : (sel == 33) = false := by simpa using hs
            have Hin2 : Hid (q la = wv) := by have := unhide Hin; rw [hne] at this; exact this
            clear Hin
            cases wv with
            | false =>
              have Hn := hide (unhide Hno (.inl (unhide Hin2)))
              go_wp2_with fail
              go_roundg (ls.length - (k + 1))
              case measure => omega
              case rel => exact ⟨k + 1, y, z, by omega, rfl, by go_num, rfl, rfl, by omega, by omega, by omega, by omega, by have h1 := unhide Hy; have h2 := unhide Hn; show _ ∧ _; omega, rfl⟩
            | true =>
              by_cases e1 : a ≤ td
              · by_cases e2 : td ≤ b
                · have Hn := hide (unhide Hyes (by rw [← hok]; simp [inD, e1, e2]) (unhide Hin2))
                  go_wp2_with fail
                  go_roundg (ls.length - (k + 1))
                  case measure => omega
                  case rel => exact ⟨k + 1, y + lm, z + 1, by omega, rfl, by go_num, rfl, rfl, by have := unhide Hwr; omega, by have := unhide Hwr; omega, by omega, by omega, by have h1 := unhide Hy; have h2 := unhide Hn; show _ ∧ _; omega, rfl⟩
                · have Hn := hide (unhide Hno (.inr (by rw [← hok]; simp [inD, e2])))
                  go_wp2_with fail
                  go_roundg (ls.length - (k + 1))
                  case measure => omega
                  case rel => exact ⟨k + 1, y, z, by omega, rfl, by go_num, rfl, rfl, by omega, by omega, by omega, by omega, by have h1 := unhide Hy; have h2 := unhide Hn; show _ ∧ _; omega, rfl⟩
              · have Hn := hide (unhide Hno (.inr (by rw [← hok]; simp [inD, e1])))
                go_wp2_with fail
                go_roundg (ls.length - (k + 1))
                case measure => omega
                case rel => exact ⟨k + 1, y, z, by omega, rfl, by go_num, rfl, rfl, by omega, by omega, by omega, by omega, by have h1 := unhide Hy; have h2 := unhide Hn; show _ ∧ _; omega, rfl⟩
        · obtain rfl : k = ls.length := by omega
          have hyy : y = x + (tkO ok q ls).1 ∧ z = c + (tkO ok q ls).2 := by have := unhide Hy; rw [tkO_end] at this; simpa using this
          have Ho2 : Hid (y + (tkT q a b (s.txs.drop (j + 1))).1 = (tkT q a b s.txs).1 ∧ z + (tkT q a b (s.txs.drop (j + 1))).2 = (tkT q a b s.txs).2) := by
            have h1 := unhide Ho
            have h2 := unhide Hst
            show _ ∧ _
            omega
          clear hyy
          go_wp2_with fail
          go_roundg (tv.length - (j + 1))
          case measure => omega
          case rel => exact ⟨j + 1, y, z, by omega, rfl, by go_num, rfl, rfl, by omega, by omega, by omega, by omega, unhide Ho2, unhide HbW⟩
    · obtain rfl : j = tv.length := by omega
      have Hfin : Hid (x = (tkT q a b s.txs).1 ∧ c = (tkT q a b s.txs).2) := by
        have := unhide Ho
        rw [List.drop_of_length_le (by rw [← unhide Hjr, List.length_map]; exact Nat.le_refl _)] at this
        show _ ∧ _
        simpa [tkT] using this
      go_wp2_with fail
      go_ret2
      rw [(unhide Hfin).1, (unhide Hfin).2]
      exact ⟨rfl, unhide Hb⟩

end Go.Proofs.YtfancgphkcjgmaaGreatDoor
namespace Go.Proofs.YtfancgphkcjgmaaGreatDoor
open Go.RowKit Db

theorem ret_int {k : IntKind} {a b : Int} (h : a = b) : Ending.returned (.int k a) = .returned (.int k b) := by rw [h]

theorem bare_yes (s u : ByteArray) (k : Nat) (h : k < s.size) (hb : ¬ s[k].toNat = 32) (hu : L u = bare ((L s).take k)) :
    L (u ++ s.extract k (k + 1)) = bare ((L s).take (k + 1)) := by
  rw [L_append, L_one s k h, L_take_succ s k h, bare_append, bare_other hb, hu]
theorem bare_no (s u : ByteArray) (k : Nat) (h : k < s.size) (hb : s[k].toNat = 32) (hu : L u = bare ((L s).take k)) :
    L u = bare ((L s).take (k + 1)) := by
  rw [L_take_succ s k h, bare_append, bare_blank hb, hu, List.append_nil]
theorem bare_size (s u : ByteArray) (k : Nat) (hu : L u = bare ((L s).take k)) : u.size ≤ k := by
  rw [← L_length, hu]; exact Nat.le_trans (bare_le _) (List.length_take_le _ _)

set_option maxHeartbeats 400000 in
theorem bare_any (s : ByteArray) (w : World) (hs : s.size ≤ 200) :
    Calls Tryz.prog 130 #[.string s] w fun e w' => ∃ t : ByteArray, e = .returned (.string t) ∧ L t = bare (L s) ∧ w' = w := by
  go_enter Tryz.func130, Tryz.ntmps130
  go_wp2
  go_loop [3, 4] (fun t i => ∃ k : Nat, ∃ u : ByteArray, k ≤ s.size ∧ i = .int .i64 k ∧ t = .string u ∧ Hid (L u = bare ((L s).take k))) (fun _ i => s.size - (intOf i).toNat)
  case atStart => exact ⟨0, _, Nat.zero_le _, rfl, rfl, hide rfl⟩
  case round =>
    obtain ⟨k, u, hk, rfl, rfl, Hu⟩ := hrel
    have hz := bare_size s u k (unhide Hu)
    by_cases hlt : k < s.size
    · by_cases hb : s[k].toNat = 32
      · have hb' : ((s[k].toNat : Int) != 32) = false := by simp; omega
        go_wp2
        go_round
        case rel => exact ⟨k + 1, u, by omega, by go_num, rfl, bare_no s u k hlt hb (unhide Hu)⟩
        case measure => simp [intOf]; omega
      · have hb' : ((s[k].toNat : Int) != 32) = true := by simp; omega
        go_wp2
        go_round
        case rel => exact ⟨k + 1, _, by omega, by go_num, rfl, bare_yes s u k hlt hb (unhide Hu)⟩
        case measure => simp [intOf]; omega
    · go_wp2
      go_ret
      exact ⟨u, rfl, by rw [unhide Hu, L_take_end s k (by omega)], rfl⟩

theorem val_step (s : ByteArray) (k : Nat) (h : k < s.size) (n : Int) : valGo n ((L s).drop k) = valGo (10 * n + ((s[k].toNat : Int) - 48)) ((L s).drop (k + 1)) := by
  rw [L_drop s k h]; rfl
def pow10 (k : Nat) : Int := 10 ^ k
theorem pow10_succ (k : Nat) : pow10 (k + 1) = 10 * pow10 k := by unfold pow10; rw [Int.pow_succ]; omega
theorem pow10_pos (k : Nat) : 1 ≤ pow10 k := by
  induction k with
  | zero => decide
  | succ k ih => rw [pow10_succ]; omega
theorem pow10_le (k : Nat) (h : k ≤ 17) : pow10 k ≤ 100000000000000000 := by
  have : pow10 17 = 100000000000000000 := by decide
  have key : ∀ d j : Nat, j + d = 17 → pow10 j ≤ pow10 17 := by
    intro d
    induction d with
    | zero => intro j hj; rw [show j = 17 by omega]; exact Int.le_refl _
    | succ d ih => intro j hj; have := ih (j + 1) (by omega); rw [pow10_succ] at this; have := pow10_pos j; omega
  have := key (17 - k) k (by omega)
  omega

set_option maxHeartbeats 400000 in
theorem value_any (s : ByteArray) (w : World) (hs : s.size ≤ 18) (hd : ∀ k (h : k < s.size), 48 ≤ s[k].toNat ∧ s[k].toNat ≤ 57) :
    Calls Tryz.prog 131 #[.string s] w fun e w' => e = .returned (.int .i64 (val (L s))) ∧ 0 ≤ val (L s) ∧ val (L s) < pow10 s.size ∧ w' = w := by
  have Hd := hide hd
  clear hd
  go_enter Tryz.func131, Tryz.ntmps131
  go_wp2
  go_loop [3, 4] (fun t i => ∃ k : Nat, ∃ n : Int, k ≤ s.size ∧ i = .int .i64 k ∧ t = .int .i64 n ∧ 0 ≤ n ∧ n < pow10 k ∧ Hid (val (L s) = valGo n ((L s).drop k))) (fun _ i => s.size - (intOf i).toNat)
  case atStart => exact ⟨0, 0, Nat.zero_le _, rfl, rfl, by omega, by decide, hide rfl⟩
  case round =>
    obtain ⟨k, n, hk, rfl, rfl, h0, h1, Hu⟩ := hrel
    by_cases hlt : k < s.size
    · have hdd := unhide Hd k hlt
      have hp := pow10_le k (by omega)
      have hn : n ≤ 99999999999999999 := by omega
      clear hp
      go_wp2
      go_round
      case rel =>
        have hp2 := pow10_succ k
        refine ⟨k + 1, _, by omega, by go_num, rfl, by omega, by omega, ?_⟩
        show val _ = _
        rw [unhide Hu, val_step s k hlt]
      case measure => simp [intOf]; omega
    · go_wp2
      go_ret
      have hk' : k = s.size := by omega
      subst hk'
      have e : val (L s) = n := by rw [unhide Hu, L_drop_end s _ (Nat.le_refl _)]; rfl
      exact ⟨ret_int e.symm, by omega, by omega, rfl⟩


theorem split_step (s : ByteArray) (c : UInt8) (acc : List (List UInt8)) (f k : Nat) (hf : f ≤ k) (h : k < s.size) (hb : ¬ s[k] = c) :
    splitGo c acc (L (s.extract f k)) ((L s).drop k) = splitGo c acc (L (s.extract f (k + 1))) ((L s).drop (k + 1)) := by
  rw [L_drop s k h]
  show (if s[k] = c then _ else _) = _
  rw [if_neg hb]
  congr 1
  rw [L_extract, L_extract, show k + 1 - f = (k - f) + 1 by omega, List.take_succ_eq_append_getElem (by rw [List.length_drop, L_length]; omega)]
  congr 2
  rw [List.getElem_drop]
  simp only [show f + (k - f) = k by omega]
  exact (L_get s k h).symm
theorem split_cut (s : ByteArray) (c : UInt8) (acc : List (List UInt8)) (f k : Nat) (h : k < s.size) (hb : s[k] = c) :
    splitGo c acc (L (s.extract f k)) ((L s).drop k) = splitGo c (acc ++ [L (s.extract f k)]) (L (s.extract (k + 1) (k + 1))) ((L s).drop (k + 1)) := by
  rw [L_drop s k h]
  show (if s[k] = c then _ else _) = _
  rw [if_pos hb, L_extract s (k + 1) (k + 1), Nat.sub_self, List.take_zero]

theorem info_string : (Tryz.prog.info? 9).map (fun i => (i.zero, i.size, i.bytes)) = some (some (.string ⟨#[]⟩), 1, 16) := by kernel_rfl

set_option maxHeartbeats 400000 in
theorem split_any (s : ByteArray) (c : UInt8) (w : World) (hs : s.size ≤ 50000) :
    Calls Tryz.prog 56 #[.string s, .int .u8 (c.toNat : Int)] w fun e w' => ∃ v : Value, ∃ ss : List ByteArray, e = .returned v ∧ ss.map L = split (L s) c ∧
      w'.ownsRow w.heap.size 9 1 v ss.length (ss.map Value.string) ∧ Below w.heap.size w w' := by
  obtain ⟨i, hi, hz0, hz1, hz2⟩ := info_parts info_string
  go_enter Tryz.func56, Tryz.ntmps56
  go_wp2
  go_loopw [5, 6, 7] (fun v f i wr => ∃ k fr : Nat, ∃ ss : List ByteArray, fr ≤ k ∧ k ≤ s.size ∧ i = .int .i64 k ∧ f = .int .i64 fr ∧ ss.length ≤ k ∧
      Hid (splitGo c (ss.map L) (L (s.extract fr k)) ((L s).drop k) = split (L s) c) ∧ Hid (wr.ownsRow w.heap.size 9 1 v ss.length (ss.map Value.string)) ∧ Hid (Below w.heap.size w wr)) (fun _ _ i _ => s.size - (intOf i).toNat)
  case atStart => exact ⟨0, 0, [], by omega, by omega, rfl, rfl, by simp, hide (by rw [L_extract]; rfl), hide (World.ownsRow_nil _ _ _ _), hide (Below.refl _ _)⟩
  case round =>
    obtain ⟨k, fr, ss, hfr, hk, rfl, rfl, hss, Hs, Ho, Hb⟩ := hrel
    have hsz := (unhide Hb).size
    by_cases hlt : k < s.size
    · by_cases hc : s[k] = c
      · have hc' : ((s[k].toNat : Int) == (c.toNat : Int)) = true := by rw [hc]; simp
        have HC := hide hc
        clear hc
        go_wp2_with (first
          | (at_builtin; refine wpList_append_own _ rfl _ _ 98 rfl w.heap.size 9 i (.string ⟨#[]⟩) 1 16 Tryz.underlying98 hi hz0 hz1 hz2 rfl (by decide) _ _ _ rfl ((unhide Ho).alloc _) ⟨wr.heap.size, 0, none⟩ 1 1 [.string (s.extract fr k)] rfl rfl (cell_one_new _ _ _) (fun x hx => by simp at hx; subst hx; rfl) (by unfold maxLen; omega) (by omega) (by simp; omega) ?_; intro v' w2 hown2 hgr2 _))
        have Hown := hide hown2
        have Hgr := hide hgr2
        clear hown2 hgr2
        go_wp2
        go_roundw
        case rel =>
          refine ⟨k + 1, k + 1, ss ++ [s.extract fr k], by omega, by omega, by go_num, by go_num, by simp; omega, ?_, ?_, ?_⟩
          · show splitGo _ _ _ _ = _
            rw [← unhide Hs, split_cut s c _ fr k hlt (unhide HC)]; simp
          · show World.ownsRow _ _ _ _ _ _ _
            simpa using unhide Hown
          · exact ((unhide Hb).alloc hsz _).grown (unhide Hgr) (by simp; omega) (fun g hg => ((unhide Ho).lt g hg).1)
        case measure => simp [intOf]; omega
      · have hc' : ((s[k].toNat : Int) == (c.toNat : Int)) = false := by
          rw [beq_eq_false_iff_ne]; intro h; exact hc (UInt8.toNat_inj.1 (by omega))
        go_wp2
        go_roundw
        case rel =>
          refine ⟨k + 1, fr, ss, by omega, by omega, by go_num, rfl, by omega, ?_, Ho, Hb⟩
          show splitGo _ _ _ _ = _
          rw [← unhide Hs, split_step s c _ fr k hfr hlt hc]
        case measure => simp [intOf]; omega
    · have hk' : k = s.size := by omega
      subst hk'
      clear hk hlt
      go_wp2_with (first
          | (at_builtin; refine wpList_append_own _ rfl _ _ 98 rfl w.heap.size 9 i (.string ⟨#[]⟩) 1 16 Tryz.underlying98 hi hz0 hz1 hz2 rfl (by decide) _ _ _ rfl ((unhide Ho).alloc _) ⟨wr.heap.size, 0, none⟩ 1 1 [.string (s.extract fr s.size)] rfl rfl (cell_one_new _ _ _) (fun x hx => by simp at hx; subst hx; rfl) (by unfold maxLen; omega) (by omega) (by simp; omega) ?_; intro v' w2 hown2 hgr2 _))
      have Hown := hide hown2
      have Hgr := hide hgr2
      clear hown2 hgr2
      go_wp2
      go_ret
      refine ⟨v', ss ++ [s.extract fr s.size], rfl, ?_, ?_, ?_⟩
      · rw [← unhide Hs, L_drop_end s _ (Nat.le_refl _)]; simp [splitGo]
      · simpa using unhide Hown
      · exact ((unhide Hb).alloc hsz _).grown (unhide Hgr) (by simp; omega) (fun g hg => ((unhide Ho).lt g hg).1)

end Go.Proofs.YtfancgphkcjgmaaGreatDoor
