/- Walks of the check: Read. The program's Show. -/
import Derived.Test.YtdchbenfccofpaaDoorS12
namespace Db
theorem badP_lt (l : List (Int × Int)) : ∀ i : Int, 0 ≤ i → badP i l < i + l.length ∧ -1 ≤ badP i l := by
  induction l with
  | nil => intro i h; simp [badP]; omega
  | cons p r ih =>
    intro i h
    have := ih (i + 1) (by omega)
    unfold badP
    simp only [List.length_cons]
    split <;> omega
theorem badN_lt (l : List (List Pt)) : ∀ i : Int, 0 ≤ i → badN i l < i + l.length ∧ -1 ≤ badN i l := by
  induction l with
  | nil => intro i h; simp [badN]; omega
  | cons p r ih =>
    intro i h
    have := ih (i + 1) (by omega)
    unfold badN
    simp only [List.length_cons]
    split <;> omega
theorem badK_lt (l : List (List Pt)) : ∀ (i : Int) (ks : List Int), 0 ≤ i → badK i ks l < i + l.length ∧ -1 ≤ badK i ks l := by
  induction l with
  | nil => intro i ks h; simp [badK]; omega
  | cons p r ih =>
    intro i ks h
    have := ih (i + 1) (ks ++ [kindP ks p]) (by omega)
    unfold badK
    simp only [List.length_cons]
    split <;> omega
end Db
namespace Go.Proofs.YtdchbenfccofpaaDoor
open Go.RowKit Db

theorem orLen_yes {i : Int} {n : Nat} (h : 0 ≤ i) (h2 : i < n) : orLen i n = i ∧ decide (orLen i n < (n : Int)) = true := by
  rw [orLen_pos h]; exact ⟨rfl, by simpa using h2⟩
theorem orLen_no {i : Int} {n : Nat} (h : ¬ 0 ≤ i) : orLen i n = n ∧ decide (orLen i n < (n : Int)) = false := by
  rw [orLen_neg h]; exact ⟨rfl, by simp⟩

theorem read_long (s : ByteArray) (w : World) (hs : 200 < s.size) (hm : s.size ≤ maxLen) :
    Calls Tryd.prog 10 #[.string s] w fun e w' => e = .returned (.tuple #[.agg #[.slice none 0 0, .slice none 0 0], .int .i64 1, .int .i64 0]) ∧ Below w.heap.size w w' := by
  unfold maxLen at hm
  go_enter Tryd.func10, Tryd.ntmps10
  go_wp2_with fail
  refine bodyPost_ret (v := .tuple #[.agg #[.slice none 0 0, .slice none 0 0], .int .i64 1, .int .i64 0]) (by simp [results, Tryd.results10, go_sem]) rfl ⟨rfl, ?_⟩
  exact (Below.refl _ _).alloc (Nat.le_refl _) _

/-- What Read answers to a text that is not too long. -/
def RepR (w : World) (s : ByteArray) (e : Ending) (w' : World) : Prop := Below w.heap.size w w' ∧
  ((∃ p : Int, e = .returned (.tuple #[.agg #[.slice none 0 0, .slice none 0 0], .int .i64 2, .int .i64 p]) ∧ plc 0 0 0 0 (L s) = p ∧ 0 ≤ p) ∨
   (∃ vp vr pd rows pss er pl, e = .returned (.tuple #[.agg #[vp, vr], .int .i64 er, .int .i64 pl]) ∧ Db.Form (L s) pd rows pss ∧ outc (pdv pd) pss = (er, pl) ∧
     (¬ er = 0 → vp = .slice none 0 0 ∧ vr = .slice none 0 0) ∧
     (er = 0 → w'.ownsRow w.heap.size 78 2 vp pd.length (cellsD pd) ∧ ∃ vs, RowsAt w' w.heap.size vr vs pss)))

set_option maxRecDepth 100000 in
set_option maxHeartbeats 4000000 in
theorem read_short (s : ByteArray) (w : World) (hs : s.size ≤ 200) :
    Calls Tryd.prog 10 #[.string s] w fun e w' => RepR w s e w' := by
  have d200 : decide ((200 : Int) < (s.size : Int)) = false := by simp; omega
  go_enter Tryd.func10, Tryd.ntmps10
  go_wp2_with fail
  refine (readForm_any s _ hs).mono ?_
  rintro e w1 (⟨p, rfl, hp, hp0, hb1⟩ | ⟨vp, vr, pd, rows, pss, vs, rfl, hform, hvp, hvr, hb1⟩)
  · have HB1 : Hid (Blk w1 w.heap.size #[.slice none 0 0, .slice none 0 0] 46) := (Blk.new _ _ _).kept hb1
    have Hb1 : Hid (Below w.heap.size w w1) := ((Below.refl _ _).alloc (Nat.le_refl _) _).then' (by simp) hb1
    have hs1 := hb1.size
    simp at hs1
    have Hp := hide hp
    have c0 := (unhide HB1).cell 0
    have c1 := (unhide HB1).cell 1
    have z0 := (unhide HB1).frozen 0
    have z1 := (unhide HB1).frozen 1
    have hl1 := (unhide HB1).lt
    simp only [List.getElem?_toArray, List.getElem?_cons_zero, List.getElem?_cons_succ] at c0 c1
    clear hp hb1
    go_wp2_with fail
    refine bodyPost_ret (v := .tuple #[.agg #[.slice none 0 0, .slice none 0 0], .int .i64 2, .int .i64 p]) (by simp [results, Tryd.results10, go_sem, c0, c1, hl1]) rfl ⟨?_, .inl ⟨p, rfl, unhide Hp, hp0⟩⟩
    (repeat (first | refine Below.setCell ?_ (by simp) _ | refine Below.alloc ?_ (by first | omega | (simp [World.setCell]; omega)) _ | exact unhide Hb1))
  · have HB1 : Hid (Blk w1 w.heap.size #[.slice none 0 0, .slice none 0 0] 46) := (Blk.new _ _ _).kept hb1
    have Hb1 : Hid (Below w.heap.size w w1) := ((Below.refl _ _).alloc (Nat.le_refl _) _).then' (by simp) hb1
    have hs1 := hb1.size
    simp at hs1
    have Hform := hide hform
    obtain ⟨aop, capp, rfl⟩ := ownsRow_form hvp
    obtain ⟨aor, capr, rfl⟩ := ownsRow_form hvr.own
    have Hvp := hide hvp
    have Hvr := hide hvr
    have hpm := ownsRow_len hvp
    have hrm := ownsRow_len hvr.own
    have Hrl := hide hvr.len
    unfold maxLen at hpm hrm
    clear hb1 hform hvp hvr
    -- the report in its own box
    have HBr := hide (Blk.new w1 #[.slice aop pd.length capp, .slice aor vs.length capr] 46)
    have HB2 := hide ((unhide HB1).alloc (.cells #[.slice aop pd.length capp, .slice aor vs.length capr] 46))
    have Hb2 := hide ((unhide Hb1).alloc (by omega) (.cells #[.slice aop pd.length capp, .slice aor vs.length capr] 46))
    have c0 := (unhide HB1).cell 0
    have c1 := (unhide HB1).cell 1
    have z0 := (unhide HB1).frozen 0
    have z1 := (unhide HB1).frozen 1
    have hl1 := (unhide HB1).lt
    simp only [List.getElem?_toArray, List.getElem?_cons_zero, List.getElem?_cons_succ] at c0 c1
    by_cases h4 : 4 < pd.length
    · have Ho : Hid (outc (pdv pd) pss = (3, 0)) := by show _ = _; unfold outc; rw [if_pos (.inl (by simpa [pdv] using h4))]
      have d4 : decide ((4 : Int) < (pd.length : Int)) = true := by simp; omega
      go_wp2_with fail
      refine bodyPost_ret (v := .tuple #[.agg #[.slice none 0 0, .slice none 0 0], .int .i64 3, .int .i64 0]) (by simp [results, Tryd.results10, go_sem, c0, c1, hl1]) rfl ⟨?_, .inr ⟨_, _, pd, rows, pss, 3, 0, rfl, unhide Hform, unhide Ho, fun _ => ⟨rfl, rfl⟩, fun h => by omega⟩⟩
      (repeat (first | refine Below.setCell ?_ (by simp) _ | refine Below.alloc ?_ (by first | omega | (simp [World.setCell]; omega)) _ | exact unhide Hb1))
    have d4 : decide ((4 : Int) < (pd.length : Int)) = false := by simp; omega
    by_cases h8 : 8 < vs.length
    · have Ho : Hid (outc (pdv pd) pss = (3, 0)) := by show _ = _; unfold outc; rw [if_pos (.inr (by rw [← unhide Hrl]; exact h8))]
      have d8 : decide ((8 : Int) < (vs.length : Int)) = true := by simp; omega
      go_wp2_with fail
      refine bodyPost_ret (v := .tuple #[.agg #[.slice none 0 0, .slice none 0 0], .int .i64 3, .int .i64 0]) (by simp [results, Tryd.results10, go_sem, c0, c1, hl1]) rfl ⟨?_, .inr ⟨_, _, pd, rows, pss, 3, 0, rfl, unhide Hform, unhide Ho, fun _ => ⟨rfl, rfl⟩, fun h => by omega⟩⟩
      (repeat (first | refine Below.setCell ?_ (by simp) _ | refine Below.alloc ?_ (by first | omega | (simp [World.setCell]; omega)) _ | exact unhide Hb1))
    have d8 : decide ((8 : Int) < (vs.length : Int)) = false := by simp; omega
    have Hsm : Hid (¬ (4 < (pdv pd).length ∨ 8 < pss.length)) := by show ¬ _; rw [← unhide Hrl]; simp [pdv]; omega
    clear c0 c1 z0 z1
    go_wp2_with fail
    refine (wrongPeriod_any _ pd 0 _ (by exact (ownsRow_base (unhide Hvp) (fun _ _ => Nat.zero_le _)).alloc _)).mono ?_
    rintro e w3 ⟨rfl, hb3⟩
    have Hvp2 := hide ((unhide Hvp).alloc (.cells #[.slice aop pd.length capp, .slice aor vs.length capr] 46))
    have Hvr2 := hide ((unhide Hvr).kept ((Below.refl _ _).alloc (Nat.le_refl _) (.cells #[.slice aop pd.length capp, .slice aor vs.length capr] 46)))
    have HBr2 := HBr
    have HBr3 := hide ((unhide HBr2).kept hb3)
    have HB3 := hide ((unhide HB2).kept hb3)
    have Hb3 := hide ((unhide Hb2).then' (unhide Hb2).size hb3)
    have Hvp3 := hide (ownsRow_below (unhide Hvp2) hb3)
    have Hvr3 := hide ((unhide Hvr2).kept hb3)
    have r0 := (unhide HBr3).cell 0
    have r1 := (unhide HBr3).cell 1
    have c0 := (unhide HB3).cell 0
    have c1 := (unhide HB3).cell 1
    have z0 := (unhide HB3).frozen 0
    have z1 := (unhide HB3).frozen 1
    simp only [List.getElem?_toArray, List.getElem?_cons_zero, List.getElem?_cons_succ] at r0 r1 c0 c1
    clear hb3
    obtain ⟨b4, hb4⟩ : ∃ b4, badP 0 (pdv pd) = b4 := ⟨_, rfl⟩
    rw [hb4]
    have Hbad4 := hide hb4
    have hlt4 : b4 < (pd.length : Int) := by rw [← hb4]; have := (badP_lt (pdv pd) 0 (by omega)).1; simp [pdv] at this ⊢; omega
    clear hb4
    by_cases h4 : 0 ≤ b4
    · have Ho : Hid (outc (pdv pd) pss = (4, b4)) := by
        show _ = _
        unfold outc
        rw [if_neg (unhide Hsm), unhide Hbad4, if_pos h4]
      rw [orLen_pos h4]
      go_wp2_with fail
      refine bodyPost_ret (v := .tuple #[.agg #[.slice none 0 0, .slice none 0 0], .int .i64 4, .int .i64 b4]) (by simp [results, Tryd.results10, go_sem, c0, c1]) rfl ⟨?_, .inr ⟨_, _, pd, rows, pss, 4, b4, rfl, unhide Hform, unhide Ho, fun _ => ⟨rfl, rfl⟩, fun h => by omega⟩⟩
      exact ((unhide Hb3).setCell (by simp) _).setCell (by simp) _
    rw [orLen_neg h4]
    go_wp2_with fail
    clear r0 r1 c0 c1 z0 z1
    refine (wrongName_any _ vs pss _ _ (by exact unhide Hvr3)).mono ?_
    rintro e w4 ⟨rfl, hb4⟩
    rw [← unhide Hrl]
    have HBr4 := hide ((unhide HBr3).kept hb4)
    have HB4 := hide ((unhide HB3).kept hb4)
    have Hb4 := hide ((unhide Hb3).then' (unhide Hb3).size hb4)
    have Hvp4 := hide (ownsRow_below (unhide Hvp3) hb4)
    have Hvr4 := hide ((unhide Hvr3).kept hb4)
    have r0 := (unhide HBr4).cell 0
    have r1 := (unhide HBr4).cell 1
    have c0 := (unhide HB4).cell 0
    have c1 := (unhide HB4).cell 1
    have z0 := (unhide HB4).frozen 0
    have z1 := (unhide HB4).frozen 1
    simp only [List.getElem?_toArray, List.getElem?_cons_zero, List.getElem?_cons_succ] at r0 r1 c0 c1
    clear hb4
    obtain ⟨b5, hb5⟩ : ∃ b5, badN 0 pss = b5 := ⟨_, rfl⟩
    rw [hb5]
    have Hbad5 := hide hb5
    have hlt5 : b5 < (vs.length : Int) := by rw [← hb5]; have := (badN_lt pss 0 (by omega)).1; rw [← unhide Hrl] at this; omega
    clear hb5
    by_cases h5 : 0 ≤ b5
    · have Ho : Hid (outc (pdv pd) pss = (5, b5)) := by
        show _ = _
        unfold outc
        rw [if_neg (unhide Hsm), unhide Hbad4, if_neg (show ¬ 0 ≤ b4 by omega), unhide Hbad5, if_pos h5]
      rw [orLen_pos h5]
      go_wp2_with fail
      refine bodyPost_ret (v := .tuple #[.agg #[.slice none 0 0, .slice none 0 0], .int .i64 5, .int .i64 b5]) (by simp [results, Tryd.results10, go_sem, c0, c1]) rfl ⟨?_, .inr ⟨_, _, pd, rows, pss, 5, b5, rfl, unhide Hform, unhide Ho, fun _ => ⟨rfl, rfl⟩, fun h => by omega⟩⟩
      exact ((unhide Hb4).setCell (by simp) _).setCell (by simp) _
    rw [orLen_neg h5]
    go_wp2_with fail
    clear r0 r1 c0 c1 z0 z1
    refine (wrongKind_any _ vs pss _ _ (by exact unhide Hvr4) (fun i ps hps => ?_) (by rw [unhide Hbad5]; omega) (by omega)).mono ?_
    · obtain ⟨e, he⟩ : ∃ e, rows[i]? = some e := by
        have h1 := (List.getElem?_eq_some_iff.1 hps).1
        exact ⟨rows[i]'(by rw [(unhide Hform).len]; exact h1), List.getElem?_eq_getElem _⟩
      have h2 := (unhide Hform).row i e ps he hps
      obtain ⟨n, hn⟩ := h2.wf
      exact ⟨⟨n, e, hn⟩, h2.pos⟩
    rintro e w5 ⟨rfl, hb5⟩
    rw [← unhide Hrl]
    have HBr5 := hide ((unhide HBr4).kept hb5)
    have HB5 := hide ((unhide HB4).kept hb5)
    have Hb5 := hide ((unhide Hb4).then' (unhide Hb4).size hb5)
    have Hvp5 := hide (ownsRow_below (unhide Hvp4) hb5)
    have Hvr5 := hide ((unhide Hvr4).kept hb5)
    have r0 := (unhide HBr5).cell 0
    have r1 := (unhide HBr5).cell 1
    have c0 := (unhide HB5).cell 0
    have c1 := (unhide HB5).cell 1
    have z0 := (unhide HB5).frozen 0
    have z1 := (unhide HB5).frozen 1
    simp only [List.getElem?_toArray, List.getElem?_cons_zero, List.getElem?_cons_succ] at r0 r1 c0 c1
    clear hb5
    obtain ⟨b6, hb6⟩ : ∃ b6, badK 0 [] pss = b6 := ⟨_, rfl⟩
    rw [hb6]
    have Hbad6 := hide hb6
    have hlt6 : b6 < (vs.length : Int) := by rw [← hb6]; have := (badK_lt pss 0 [] (by omega)).1; rw [← unhide Hrl] at this; omega
    clear hb6
    by_cases h6 : 0 ≤ b6
    · have Ho : Hid (outc (pdv pd) pss = (6, b6)) := by
        show _ = _
        unfold outc
        rw [if_neg (unhide Hsm), unhide Hbad4, if_neg (show ¬ 0 ≤ b4 by omega), unhide Hbad5, if_neg (show ¬ 0 ≤ b5 by omega), unhide Hbad6, if_pos h6]
      rw [orLen_pos h6]
      go_wp2_with fail
      refine bodyPost_ret (v := .tuple #[.agg #[.slice none 0 0, .slice none 0 0], .int .i64 6, .int .i64 b6]) (by simp [results, Tryd.results10, go_sem, c0, c1]) rfl ⟨?_, .inr ⟨_, _, pd, rows, pss, 6, b6, rfl, unhide Hform, unhide Ho, fun _ => ⟨rfl, rfl⟩, fun h => by omega⟩⟩
      exact ((unhide Hb5).setCell (by simp) _).setCell (by simp) _
    rw [orLen_neg h6]
    have Ho : Hid (outc (pdv pd) pss = (0, 0)) := by
      show _ = _
      unfold outc
      rw [if_neg (unhide Hsm), unhide Hbad4, if_neg (show ¬ 0 ≤ b4 by omega), unhide Hbad5, if_neg (show ¬ 0 ≤ b5 by omega), unhide Hbad6, if_neg (show ¬ 0 ≤ b6 by omega)]
    go_wp2_with fail
    refine bodyPost_ret (v := .tuple #[.agg #[.slice aop pd.length capp, .slice aor vs.length capr], .int .i64 0, .int .i64 0]) (by simp [results, Tryd.results10, go_sem, c0, c1]) rfl ⟨?_, .inr ⟨_, _, pd, rows, pss, 0, 0, rfl, unhide Hform, unhide Ho, fun h => absurd rfl h, fun _ => ⟨?_, vs, ?_⟩⟩⟩
    · exact ((unhide Hb5).setCell (by simp) _).setCell (by simp) _
    · have hlo : ∀ k, (Value.slice aop pd.length capp).ownBlock = some k → w.heap.size + 1 ≤ k := fun k hk => by have := ((unhide Hvp5).lt k hk).1; simpa using this
      exact ownsRow_base (ownsRow_setOther (ownsRow_setOther (unhide Hvp5) (fun e => by have := hlo _ e.symm; simp at this; omega) _) (fun e => by have := hlo _ e.symm; simp at this; omega) _) (fun k hk => by have := hlo k hk; omega)
    · refine RowsAt.base ((unhide Hvr5).frm (X := fun k => k = w.heap.size) (Frm.setCell (X := fun k => k = w.heap.size) (Frm.setCell (X := fun k => k = w.heap.size) (Frm.refl _ _ _) (p := ⟨w.heap.size, 0, none⟩) (.inr rfl) _) (p := ⟨w.heap.size, 1, none⟩) (.inr rfl) _) (fun k hk _ h => by simp at hk; omega)) (by simp)

end Go.Proofs.YtdchbenfccofpaaDoor
namespace Go.Proofs.YtdchbenfccofpaaDoor
open Go.RowKit Db

/-- What Show answers. -/
def ShowIs (s u : ByteArray) (er : Int) : Prop :=
  (200 < s.size ∧ er = 1 ∧ u = ⟨#[]⟩) ∨ (s.size ≤ 200 ∧ er = 2 ∧ 0 ≤ plc 0 0 0 0 (L s) ∧ u = ⟨#[]⟩) ∨
  (s.size ≤ 200 ∧ ∃ pd rows pss pl, Db.Form (L s) pd rows pss ∧ outc (pdv pd) pss = (er, pl) ∧ ((¬ er = 0 ∧ u = ⟨#[]⟩) ∨ (er = 0 ∧ L u = shT pd pss ∧ ∀ ps ∈ pss, ps.length ≤ 200)))

set_option maxRecDepth 100000 in
set_option maxHeartbeats 1000000 in
theorem dayShow_any (s : ByteArray) (w : World) (hm : s.size ≤ maxLen) (ht : Tab w) :
    Calls Tryd.prog 5 #[.string s] w fun e w' => ∃ (u : ByteArray) (er : Int), e = .returned (.tuple #[.string u, .int .i64 er]) ∧ ShowIs s u er ∧ Below w.heap.size w w' := by
  by_cases hs : 200 < s.size
  · go_enter Tryd.func5, Tryd.ntmps5
    go_wp2_with fail
    refine (read_long s _ hs hm).mono ?_
    rintro e w1 ⟨rfl, hb⟩
    have Hb := hide hb
    have hsz := hb.size
    clear hb
    go_wp2_with fail
    go_ret2
    exact ⟨_, 1, rfl, .inl ⟨hs, rfl, rfl⟩, (unhide Hb).alloc hsz _⟩
  · have hs' : s.size ≤ 200 := by omega
    have Ht := hide ht
    clear ht
    go_enter Tryd.func5, Tryd.ntmps5
    go_wp2_with fail
    refine (read_short s _ hs').mono ?_
    rintro e w1 ⟨hb, ⟨p, rfl, hp, hp0⟩ | ⟨vp, vr, pd, rows, pss, er, pl, rfl, hf, ho, hz, hok⟩⟩
    · have Hb := hide hb
      have hsz := hb.size
      have Hc : Hid (ShowIs s ⟨#[]⟩ 2) := .inr (.inl ⟨hs', rfl, by rw [hp]; exact hp0, rfl⟩)
      clear hb hp
      go_wp2_with fail
      go_ret2
      exact ⟨_, 2, rfl, unhide Hc, (unhide Hb).alloc hsz _⟩
    · have Hb := hide hb
      have hsz := hb.size
      by_cases h0 : er = 0
      · subst h0
        obtain ⟨hvp, vs, hvr⟩ := hok rfl
        obtain ⟨a1, k1, rfl⟩ := ownsRow_form hvp
        obtain ⟨a2, k2, rfl⟩ := ownsRow_form hvr.own
        have hsm := outc_small ho rfl
        have hpl : pd.length ≤ 4 := by have := hsm.1; simpa [pdv] using this
        have hvl : vs.length ≤ 8 := by rw [hvr.len]; exact hsm.2.1
        have Hf := hide hf
        have Ho := hide ho
        have Hvp := hide hvp
        have Hvr := hide hvr
        clear hb hf ho hz hok hvp hvr hsm
        go_wp2_with fail
        refine (repShow_any _ _ pd vs pss w.heap.size _ (by exact (unhide Hvp).alloc _) (by exact (unhide Hvr).kept ((Below.refl _ _).alloc (Nat.le_refl _) _)) (unhide Hf).sht.days ?_ hpl hvl ((unhide Ht).below (by exact (unhide Hb).alloc hsz _))).mono ?_
        · intro i ps hps
          obtain ⟨e, he⟩ : ∃ e, rows[i]? = some e := by
            have h1 := (List.getElem?_eq_some_iff.1 hps).1
            exact ⟨rows[i]'(by rw [(unhide Hf).len]; exact h1), List.getElem?_eq_getElem _⟩
          obtain ⟨n, hn⟩ := ((unhide Hf).row i e ps he hps).wf
          exact ⟨n, e, hn⟩
        · rintro e w2 ⟨u, rfl, hu, hb2⟩
          have Hu := hide hu
          have Hb2 : Hid (Below w.heap.size w w2) := ((unhide Hb).alloc hsz _).then' (by simp; omega) hb2
          clear hu hb2
          go_wp2_with fail
          go_ret2
          exact ⟨u, 0, rfl, .inr (.inr ⟨hs', pd, rows, pss, pl, unhide Hf, unhide Ho, .inr ⟨rfl, unhide Hu, (unhide Hvr).bd⟩⟩), unhide Hb2⟩
      · obtain ⟨rfl, rfl⟩ := hz h0
        have Hc : Hid (ShowIs s ⟨#[]⟩ er) := .inr (.inr ⟨hs', pd, rows, pss, pl, hf, ho, .inl ⟨h0, rfl⟩⟩)
        have hne : (er == 0) = false := by simpa using h0
        clear hb hf ho hz hok
        go_wp2_with fail
        go_ret2
        exact ⟨_, er, rfl, unhide Hc, (unhide Hb).alloc hsz _⟩

end Go.Proofs.YtdchbenfccofpaaDoor
