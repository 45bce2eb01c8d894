/- Walks of the check: wrongKind. Walks of the check: Read. Reports: the program's sheet as a text; the program's Report. Reports: the program's Report and the document's answer the same. The program's Check. Show: the plain form, by a pile of pieces; digits without noughts ahead. Walks of Show: numerals, signs, brackets. -/
import Derived.Test.YtdchbenfccofpaaGreatDoorF14
import Derived.Test.YtdchbenfccofpaaGreatDoorF13
import Derived.Test.YtdchbenfccofpaaGreatDoorF03
import Derived.Lib.ItoaNum
import Derived.Lib.ItoaMem
import Derived.Test.YtdchbenfccofpaaGreatDoorF01
import Derived.Test.YtdchbenfccofpaaGreatDoorF04
import Derived.Lib.AppendIntMem
import Derived.Laws.IdiomStrings
namespace Go.Proofs.YtdchbenfccofpaaGreatDoor
open Go.RowKit Db

set_option maxRecDepth 100000 in
set_option maxHeartbeats 4000000 in
theorem wrongKind_any (vr : Value) (vs : List Value) (pss : List (List Pt)) (B : Nat) (w : World) (h : RowsAt w B vr vs pss) (hrow : ∀ (i : Nat) ps, pss[i]? = some ps → (∃ n e, Wf n e ps) ∧ ∀ p ∈ ps, 0 ≤ p.2) (hbn : badN 0 pss < 0) (hvl : vs.length ≤ 200) :
    Calls Tryz.prog 95 #[vr] w fun e w' => e = .returned (.int .i64 (orLen (badK 0 [] pss) pss.length)) ∧ Below w.heap.size w w' := by
  obtain ⟨ii, hi, hz0, hz1, hz2⟩ := info_parts info_kind
  have Hlen := hide h.len
  obtain ⟨ao, cap, rfl⟩ := ownsRow_form h.own
  have H := hide h
  have Hrow := hide hrow
  have Hbn := hide hbn
  clear h hrow hbn
  go_enter Tryz.func95, Tryz.ntmps95
  go_wp2_with fail
  go_loopw [3, 10] (fun vk i wr => ∃ k : Nat, ∃ ks : List Int, k ≤ vs.length ∧ i = .int .i64 k ∧ ks.length = k ∧ Hid (∀ x ∈ ks, x = 0 ∨ x = 1) ∧ Hid (badK k (ks.map toR) (pss.drop k) = badK 0 [] pss) ∧
      Hid (wr.ownsRow w.heap.size 199 1 vk ks.length (ks.map (.int .i64))) ∧ Hid (Below w.heap.size w wr)) (fun _ i _ => vs.length - (intOf i).toNat)
  case atStart => exact ⟨0, [], by omega, rfl, rfl, by simp [Hid], rfl, World.ownsRow_nil _ _ _ _, Below.refl _ _⟩
  case round =>
    obtain ⟨k, ks, hk, rfl, hkl, Hkb, Hp, Ho, Hb⟩ := hrel
    obtain ⟨aok, capk, hvk⟩ := ownsRow_form (unhide Ho)
    subst hvk
    subst hkl
    have hsz := (unhide Hb).size
    by_cases hlt : ks.length < vs.length
    · obtain ⟨vk, hvk⟩ : ∃ vk, vs[ks.length]? = some vk := ⟨vs[ks.length], List.getElem?_eq_getElem hlt⟩
      obtain ⟨pk, hpk⟩ : ∃ pk, pss[ks.length]? = some pk := ⟨pss[ks.length]'(by rw [← unhide Hlen]; exact hlt), List.getElem?_eq_getElem _⟩
      have Hst := hide (badK_step (ks.map toR) hpk)
      have hrk := (unhide H).row ks.length vk pk hvk hpk
      obtain ⟨aop, capp, rfl⟩ := ownsRow_form hrk
      obtain ⟨g, _, e1, hg, hg'⟩ := ownsRow_some (unhide H).own (by omega)
      simp only [Value.slice.injEq, true_and] at e1
      obtain ⟨rfl, rfl⟩ := e1
      have c1 := ownsRow_cell (ownsRow_below (unhide H).own (unhide Hb)) (j := ks.length) hvk
      have Hrk := hide (ownsRow_below hrk (unhide Hb))
      have hro := unhide Hrow ks.length pk hpk
      obtain ⟨⟨nf, ef, hwf⟩, hpos⟩ := hro
      have hnm := badN_all pss 0 (by omega) (unhide Hbn) ks.length pk hpk
      rw [Int.zero_add] at hnm
      have Hnm : Hid (∀ p ∈ pk, oldB p.1 = true → 0 ≤ p.2 ∧ p.2.toNat < ks.length) := fun p hp ho => ⟨hpos p hp, nameB_lt hnm hpos ks.length rfl p hp ho⟩
      have Hdp : Hid (dpt pk 0 = some 1) := by
        have := wf_dpt hwf [] 0
        rw [List.append_nil] at this
        exact this
      have Hke : Hid (∃ kk, kEval (ks.map toR) pk [] = [kk]) := by
        obtain ⟨kk, hkk⟩ := wf_kind (ks.map toR) hwf
        refine ⟨kk, ?_⟩
        have := hkk [] []
        rw [List.append_nil] at this
        exact this
      have Hbd := hide ((unhide H).bd pk (List.mem_of_getElem? hpk))
      clear hrk hvk hpk hwf hpos hnm
      go_wp2_with fail
      refine (rowKind_any _ _ pk ks 0 _ (by exact (ownsRow_base (unhide Hrk) (fun _ _ => Nat.zero_le _)).alloc _) (by exact (ownsRow_base (unhide Ho) (fun _ _ => Nat.zero_le _)).alloc _) (unhide Hkb) (unhide Hnm) (unhide Hdp) (unhide Hke) (unhide Hbd)).mono ?_
      rintro e w3 ⟨kp, ok, rfl, hkp, hkind, hb3⟩
      have Hb3 : Hid (Below w.heap.size w w3) := ((unhide Hb).alloc hsz _).then' (by simp; omega) hb3
      have Ho3 := hide (ownsRow_below ((unhide Ho).alloc _) hb3)
      have hs3 := hb3.size
      simp at hs3
      have Hkp := hide hkp
      have Hkind := hide hkind
      clear hb3 hkp hkind
      cases ok with
      | false =>
        have Hv : Hid (badK 0 [] pss = ks.length) := by
          show _ = _
          rw [← unhide Hp, unhide Hst, unhide Hkind]; rfl
        go_wp2_with fail
        go_ret
        exact ⟨retI (by rw [unhide Hv, orLen_pos (by omega)]), unhide Hb3⟩
      | true =>
        have Hst2 : Hid (badK ks.length (ks.map toR) (pss.drop ks.length) = badK ((ks.length + 1 : Nat) : Int) ((ks ++ [kp]).map toR) (pss.drop (ks.length + 1))) := by
          show _ = _
          rw [unhide Hst, unhide Hkind]
          have : (toR kp == 0) = false := by rcases unhide Hkp with h | h <;> subst h <;> rfl
          simp [this]
        go_wp2_with (first
          | (at_builtin; refine wpList_append_own _ rfl (.tmp 24) (.tmp 26) 198 rfl w.heap.size 199 ii (.int .i64 0) 1 8 Tryz.underlying198 hi hz0 hz1 hz2 rfl (by decide) (.slice aok ks.length capk) ks.length _ rfl ((unhide Ho3).alloc _) ⟨w3.heap.size, 0, none⟩ 1 1 [.int .i64 kp] rfl rfl (cell_one_new _ _ _) (fun x hx => by simp at hx; subst hx; rfl) (by unfold maxLen; omega) (by omega) (by simp; omega) ?_; intro vq' w5 hown5 hgr5 _))
        have hb5 : Below w.heap.size w w5 := ((unhide Hb3).alloc (by omega) _).grown hgr5 (by simp; omega) (fun g hg => ((unhide Ho3).lt g hg).1)
        have Hown5 := hide hown5
        have Hb5 := hide hb5
        clear hown5 hgr5 hb5
        go_wp2_with fail
        go_roundw
        case rel =>
          refine ⟨ks.length + 1, ks ++ [kp], by omega, by go_num, by simp, ?_, by show _ = _; rw [← unhide Hp, unhide Hst2], ?_, unhide Hb5⟩
          · intro x hx
            simp at hx
            rcases hx with hx | rfl
            · exact unhide Hkb x hx
            · exact unhide Hkp
          · show World.ownsRow _ _ _ _ _ _ _
            simpa using unhide Hown5
        case measure => simp [intOf]; omega
    · have Hv : Hid (badK 0 [] pss = -1) := by
        show _ = _
        rw [← unhide Hp, List.drop_eq_nil_of_le (by rw [← unhide Hlen]; omega)]; rfl
      go_wp2_with fail
      go_ret
      exact ⟨retI (by rw [unhide Hv, orLen_neg (by omega), ← unhide Hlen]), unhide Hb⟩

end Go.Proofs.YtdchbenfccofpaaGreatDoor
namespace Db
theorem badP_lt (l : List (Int × Int)) : ∀ i : Int, 0 ≤ i → badP i l < i + l.length ∧ -1 ≤ badP i l := by
  induction l with
  | nil => intro i h; simp [badP]; omega
  | cons p r ih =>
    intro i h
    have := ih (i + 1) (by omega)
    unfold badP
    simp only [List.length_cons]
    split <;> omega
theorem badN_lt (l : List (List Pt)) : ∀ i : Int, 0 ≤ i → badN i l < i + l.length ∧ -1 ≤ badN i l := by
  induction l with
  | nil => intro i h; simp [badN]; omega
  | cons p r ih =>
    intro i h
    have := ih (i + 1) (by omega)
    unfold badN
    simp only [List.length_cons]
    split <;> omega
theorem badK_lt (l : List (List Pt)) : ∀ (i : Int) (ks : List Int), 0 ≤ i → badK i ks l < i + l.length ∧ -1 ≤ badK i ks l := by
  induction l with
  | nil => intro i ks h; simp [badK]; omega
  | cons p r ih =>
    intro i ks h
    have := ih (i + 1) (ks ++ [kindP ks p]) (by omega)
    unfold badK
    simp only [List.length_cons]
    split <;> omega
end Db
namespace Go.Proofs.YtdchbenfccofpaaGreatDoor
open Go.RowKit Db

theorem orLen_yes {i : Int} {n : Nat} (h : 0 ≤ i) (h2 : i < n) : orLen i n = i ∧ decide (orLen i n < (n : Int)) = true := by
  rw [orLen_pos h]; exact ⟨rfl, by simpa using h2⟩
theorem orLen_no {i : Int} {n : Nat} (h : ¬ 0 ≤ i) : orLen i n = n ∧ decide (orLen i n < (n : Int)) = false := by
  rw [orLen_neg h]; exact ⟨rfl, by simp⟩

theorem read_long (s : ByteArray) (w : World) (hs : 200 < s.size) (hm : s.size ≤ maxLen) :
    Calls Tryz.prog 57 #[.string s] w fun e w' => e = .returned (.tuple #[.agg #[.slice none 0 0, .slice none 0 0], .int .i64 1, .int .i64 0]) ∧ Below w.heap.size w w' := by
  unfold maxLen at hm
  go_enter Tryz.func57, Tryz.ntmps57
  go_wp2_with fail
  refine bodyPost_ret (v := .tuple #[.agg #[.slice none 0 0, .slice none 0 0], .int .i64 1, .int .i64 0]) (by simp [results, Tryz.results57, go_sem]) rfl ⟨rfl, ?_⟩
  exact (Below.refl _ _).alloc (Nat.le_refl _) _

/-- What Read answers to a text that is not too long. -/
def RepR (w : World) (s : ByteArray) (e : Ending) (w' : World) : Prop := Below w.heap.size w w' ∧
  ((∃ p : Int, e = .returned (.tuple #[.agg #[.slice none 0 0, .slice none 0 0], .int .i64 2, .int .i64 p]) ∧ plc 0 0 0 0 (L s) = p ∧ 0 ≤ p) ∨
   (∃ vp vr pd rows pss er pl, e = .returned (.tuple #[.agg #[vp, vr], .int .i64 er, .int .i64 pl]) ∧ Db.Form (L s) pd rows pss ∧ outc (pdv pd) pss = (er, pl) ∧
     (¬ er = 0 → vp = .slice none 0 0 ∧ vr = .slice none 0 0) ∧
     (er = 0 → w'.ownsRow w.heap.size 177 2 vp pd.length (cellsD pd) ∧ ∃ vs, RowsAt w' w.heap.size vr vs pss)))

set_option maxRecDepth 100000 in
set_option maxHeartbeats 4000000 in
theorem read_short (s : ByteArray) (w : World) (hs : s.size ≤ 200) :
    Calls Tryz.prog 57 #[.string s] w fun e w' => RepR w s e w' := by
  have d200 : decide ((200 : Int) < (s.size : Int)) = false := by simp; omega
  go_enter Tryz.func57, Tryz.ntmps57
  go_wp2_with fail
  refine (readForm_any s _ hs).mono ?_
  rintro e w1 (⟨p, rfl, hp, hp0, hb1⟩ | ⟨vp, vr, pd, rows, pss, vs, rfl, hform, hvp, hvr, hb1⟩)
  · have HB1 : Hid (Blk w1 w.heap.size #[.slice none 0 0, .slice none 0 0] 110) := (Blk.new _ _ _).kept hb1
    have Hb1 : Hid (Below w.heap.size w w1) := ((Below.refl _ _).alloc (Nat.le_refl _) _).then' (by simp) hb1
    have hs1 := hb1.size
    simp at hs1
    have Hp := hide hp
    have c0 := (unhide HB1).cell 0
    have c1 := (unhide HB1).cell 1
    have z0 := (unhide HB1).frozen 0
    have z1 := (unhide HB1).frozen 1
    have hl1 := (unhide HB1).lt
    simp only [List.getElem?_toArray, List.getElem?_cons_zero, List.getElem?_cons_succ] at c0 c1
    clear hp hb1
    go_wp2_with fail
    refine bodyPost_ret (v := .tuple #[.agg #[.slice none 0 0, .slice none 0 0], .int .i64 2, .int .i64 p]) (by simp [results, Tryz.results57, go_sem, c0, c1, hl1]) rfl ⟨?_, .inl ⟨p, rfl, unhide Hp, hp0⟩⟩
    (repeat (first | refine Below.setCell ?_ (by simp) _ | refine Below.alloc ?_ (by first | omega | (simp [World.setCell]; omega)) _ | exact unhide Hb1))
  · have HB1 : Hid (Blk w1 w.heap.size #[.slice none 0 0, .slice none 0 0] 110) := (Blk.new _ _ _).kept hb1
    have Hb1 : Hid (Below w.heap.size w w1) := ((Below.refl _ _).alloc (Nat.le_refl _) _).then' (by simp) hb1
    have hs1 := hb1.size
    simp at hs1
    have Hform := hide hform
    obtain ⟨aop, capp, rfl⟩ := ownsRow_form hvp
    obtain ⟨aor, capr, rfl⟩ := ownsRow_form hvr.own
    have Hvp := hide hvp
    have Hvr := hide hvr
    have hpm := ownsRow_len hvp
    have hrm := ownsRow_len hvr.own
    have Hrl := hide hvr.len
    unfold maxLen at hpm hrm
    clear hb1 hform hvp hvr
    -- the report in its own box
    have HBr := hide (Blk.new w1 #[.slice aop pd.length capp, .slice aor vs.length capr] 110)
    have HB2 := hide ((unhide HB1).alloc (.cells #[.slice aop pd.length capp, .slice aor vs.length capr] 110))
    have Hb2 := hide ((unhide Hb1).alloc (by omega) (.cells #[.slice aop pd.length capp, .slice aor vs.length capr] 110))
    have c0 := (unhide HB1).cell 0
    have c1 := (unhide HB1).cell 1
    have z0 := (unhide HB1).frozen 0
    have z1 := (unhide HB1).frozen 1
    have hl1 := (unhide HB1).lt
    simp only [List.getElem?_toArray, List.getElem?_cons_zero, List.getElem?_cons_succ] at c0 c1
    by_cases h4 : 4 < pd.length
    · have Ho : Hid (outc (pdv pd) pss = (3, 0)) := by show _ = _; unfold outc; rw [if_pos (.inl (by simpa [pdv] using h4))]
      have d4 : decide ((4 : Int) < (pd.length : Int)) = true := by simp; omega
      go_wp2_with fail
      refine bodyPost_ret (v := .tuple #[.agg #[.slice none 0 0, .slice none 0 0], .int .i64 3, .int .i64 0]) (by simp [results, Tryz.results57, go_sem, c0, c1, hl1]) rfl ⟨?_, .inr ⟨_, _, pd, rows, pss, 3, 0, rfl, unhide Hform, unhide Ho, fun _ => ⟨rfl, rfl⟩, fun h => by omega⟩⟩
      (repeat (first | refine Below.setCell ?_ (by simp) _ | refine Below.alloc ?_ (by first | omega | (simp [World.setCell]; omega)) _ | exact unhide Hb1))
    have d4 : decide ((4 : Int) < (pd.length : Int)) = false := by simp; omega
    by_cases h8 : 8 < vs.length
    · have Ho : Hid (outc (pdv pd) pss = (3, 0)) := by show _ = _; unfold outc; rw [if_pos (.inr (by rw [← unhide Hrl]; exact h8))]
      have d8 : decide ((8 : Int) < (vs.length : Int)) = true := by simp; omega
      go_wp2_with fail
      refine bodyPost_ret (v := .tuple #[.agg #[.slice none 0 0, .slice none 0 0], .int .i64 3, .int .i64 0]) (by simp [results, Tryz.results57, go_sem, c0, c1, hl1]) rfl ⟨?_, .inr ⟨_, _, pd, rows, pss, 3, 0, rfl, unhide Hform, unhide Ho, fun _ => ⟨rfl, rfl⟩, fun h => by omega⟩⟩
      (repeat (first | refine Below.setCell ?_ (by simp) _ | refine Below.alloc ?_ (by first | omega | (simp [World.setCell]; omega)) _ | exact unhide Hb1))
    have d8 : decide ((8 : Int) < (vs.length : Int)) = false := by simp; omega
    have Hsm : Hid (¬ (4 < (pdv pd).length ∨ 8 < pss.length)) := by show ¬ _; rw [← unhide Hrl]; simp [pdv]; omega
    clear c0 c1 z0 z1
    go_wp2_with fail
    refine (wrongPeriod_any _ pd 0 _ (by exact (ownsRow_base (unhide Hvp) (fun _ _ => Nat.zero_le _)).alloc _)).mono ?_
    rintro e w3 ⟨rfl, hb3⟩
    have Hvp2 := hide ((unhide Hvp).alloc (.cells #[.slice aop pd.length capp, .slice aor vs.length capr] 110))
    have Hvr2 := hide ((unhide Hvr).kept ((Below.refl _ _).alloc (Nat.le_refl _) (.cells #[.slice aop pd.length capp, .slice aor vs.length capr] 110)))
    have HBr2 := HBr
    have HBr3 := hide ((unhide HBr2).kept hb3)
    have HB3 := hide ((unhide HB2).kept hb3)
    have Hb3 := hide ((unhide Hb2).then' (unhide Hb2).size hb3)
    have Hvp3 := hide (ownsRow_below (unhide Hvp2) hb3)
    have Hvr3 := hide ((unhide Hvr2).kept hb3)
    have r0 := (unhide HBr3).cell 0
    have r1 := (unhide HBr3).cell 1
    have c0 := (unhide HB3).cell 0
    have c1 := (unhide HB3).cell 1
    have z0 := (unhide HB3).frozen 0
    have z1 := (unhide HB3).frozen 1
    simp only [List.getElem?_toArray, List.getElem?_cons_zero, List.getElem?_cons_succ] at r0 r1 c0 c1
    clear hb3
    obtain ⟨b4, hb4⟩ : ∃ b4, badP 0 (pdv pd) = b4 := ⟨_, rfl⟩
    rw [hb4]
    have Hbad4 := hide hb4
    have hlt4 : b4 < (pd.length : Int) := by rw [← hb4]; have := (badP_lt (pdv pd) 0 (by omega)).1; simp [pdv] at this ⊢; omega
    clear hb4
    by_cases h4 : 0 ≤ b4
    · have Ho : Hid (outc (pdv pd) pss = (4, b4)) := by
        show _ = _
        unfold outc
        rw [if_neg (unhide Hsm), unhide Hbad4, if_pos h4]
      rw [orLen_pos h4]
      go_wp2_with fail
      refine bodyPost_ret (v := .tuple #[.agg #[.slice none 0 0, .slice none 0 0], .int .i64 4, .int .i64 b4]) (by simp [results, Tryz.results57, go_sem, c0, c1]) rfl ⟨?_, .inr ⟨_, _, pd, rows, pss, 4, b4, rfl, unhide Hform, unhide Ho, fun _ => ⟨rfl, rfl⟩, fun h => by omega⟩⟩
      exact ((unhide Hb3).setCell (by simp) _).setCell (by simp) _
    rw [orLen_neg h4]
    go_wp2_with fail
    clear r0 r1 c0 c1 z0 z1
    refine (wrongName_any _ vs pss _ _ (by exact unhide Hvr3)).mono ?_
    rintro e w4 ⟨rfl, hb4⟩
    rw [← unhide Hrl]
    have HBr4 := hide ((unhide HBr3).kept hb4)
    have HB4 := hide ((unhide HB3).kept hb4)
    have Hb4 := hide ((unhide Hb3).then' (unhide Hb3).size hb4)
    have Hvp4 := hide (ownsRow_below (unhide Hvp3) hb4)
    have Hvr4 := hide ((unhide Hvr3).kept hb4)
    have r0 := (unhide HBr4).cell 0
    have r1 := (unhide HBr4).cell 1
    have c0 := (unhide HB4).cell 0
    have c1 := (unhide HB4).cell 1
    have z0 := (unhide HB4).frozen 0
    have z1 := (unhide HB4).frozen 1
    simp only [List.getElem?_toArray, List.getElem?_cons_zero, List.getElem?_cons_succ] at r0 r1 c0 c1
    clear hb4
    obtain ⟨b5, hb5⟩ : ∃ b5, badN 0 pss = b5 := ⟨_, rfl⟩
    rw [hb5]
    have Hbad5 := hide hb5
    have hlt5 : b5 < (vs.length : Int) := by rw [← hb5]; have := (badN_lt pss 0 (by omega)).1; rw [← unhide Hrl] at this; omega
    clear hb5
    by_cases h5 : 0 ≤ b5
    · have Ho : Hid (outc (pdv pd) pss = (5, b5)) := by
        show _ = _
        unfold outc
        rw [if_neg (unhide Hsm), unhide Hbad4, if_neg (show ¬ 0 ≤ b4 by omega), unhide Hbad5, if_pos h5]
      rw [orLen_pos h5]
      go_wp2_with fail
      refine bodyPost_ret (v := .tuple #[.agg #[.slice none 0 0, .slice none 0 0], .int .i64 5, .int .i64 b5]) (by simp [results, Tryz.results57, go_sem, c0, c1]) rfl ⟨?_, .inr ⟨_, _, pd, rows, pss, 5, b5, rfl, unhide Hform, unhide Ho, fun _ => ⟨rfl, rfl⟩, fun h => by omega⟩⟩
      exact ((unhide Hb4).setCell (by simp) _).setCell (by simp) _
    rw [orLen_neg h5]
    go_wp2_with fail
    clear r0 r1 c0 c1 z0 z1
    refine (wrongKind_any _ vs pss _ _ (by exact unhide Hvr4) (fun i ps hps => ?_) (by rw [unhide Hbad5]; omega) (by omega)).mono ?_
    · obtain ⟨e, he⟩ : ∃ e, rows[i]? = some e := by
        have h1 := (List.getElem?_eq_some_iff.1 hps).1
        exact ⟨rows[i]'(by rw [(unhide Hform).len]; exact h1), List.getElem?_eq_getElem _⟩
      have h2 := (unhide Hform).row i e ps he hps
      obtain ⟨n, hn⟩ := h2.wf
      exact ⟨⟨n, e, hn⟩, h2.pos⟩
    rintro e w5 ⟨rfl, hb5⟩
    rw [← unhide Hrl]
    have HBr5 := hide ((unhide HBr4).kept hb5)
    have HB5 := hide ((unhide HB4).kept hb5)
    have Hb5 := hide ((unhide Hb4).then' (unhide Hb4).size hb5)
    have Hvp5 := hide (ownsRow_below (unhide Hvp4) hb5)
    have Hvr5 := hide ((unhide Hvr4).kept hb5)
    have r0 := (unhide HBr5).cell 0
    have r1 := (unhide HBr5).cell 1
    have c0 := (unhide HB5).cell 0
    have c1 := (unhide HB5).cell 1
    have z0 := (unhide HB5).frozen 0
    have z1 := (unhide HB5).frozen 1
    simp only [List.getElem?_toArray, List.getElem?_cons_zero, List.getElem?_cons_succ] at r0 r1 c0 c1
    clear hb5
    obtain ⟨b6, hb6⟩ : ∃ b6, badK 0 [] pss = b6 := ⟨_, rfl⟩
    rw [hb6]
    have Hbad6 := hide hb6
    have hlt6 : b6 < (vs.length : Int) := by rw [← hb6]; have := (badK_lt pss 0 [] (by omega)).1; rw [← unhide Hrl] at this; omega
    clear hb6
    by_cases h6 : 0 ≤ b6
    · have Ho : Hid (outc (pdv pd) pss = (6, b6)) := by
        show _ = _
        unfold outc
        rw [if_neg (unhide Hsm), unhide Hbad4, if_neg (show ¬ 0 ≤ b4 by omega), unhide Hbad5, if_neg (show ¬ 0 ≤ b5 by omega), unhide Hbad6, if_pos h6]
      rw [orLen_pos h6]
      go_wp2_with fail
      refine bodyPost_ret (v := .tuple #[.agg #[.slice none 0 0, .slice none 0 0], .int .i64 6, .int .i64 b6]) (by simp [results, Tryz.results57, go_sem, c0, c1]) rfl ⟨?_, .inr ⟨_, _, pd, rows, pss, 6, b6, rfl, unhide Hform, unhide Ho, fun _ => ⟨rfl, rfl⟩, fun h => by omega⟩⟩
      exact ((unhide Hb5).setCell (by simp) _).setCell (by simp) _
    rw [orLen_neg h6]
    have Ho : Hid (outc (pdv pd) pss = (0, 0)) := by
      show _ = _
      unfold outc
      rw [if_neg (unhide Hsm), unhide Hbad4, if_neg (show ¬ 0 ≤ b4 by omega), unhide Hbad5, if_neg (show ¬ 0 ≤ b5 by omega), unhide Hbad6, if_neg (show ¬ 0 ≤ b6 by omega)]
    go_wp2_with fail
    refine bodyPost_ret (v := .tuple #[.agg #[.slice aop pd.length capp, .slice aor vs.length capr], .int .i64 0, .int .i64 0]) (by simp [results, Tryz.results57, go_sem, c0, c1]) rfl ⟨?_, .inr ⟨_, _, pd, rows, pss, 0, 0, rfl, unhide Hform, unhide Ho, fun h => absurd rfl h, fun _ => ⟨?_, vs, ?_⟩⟩⟩
    · exact ((unhide Hb5).setCell (by simp) _).setCell (by simp) _
    · have hlo : ∀ k, (Value.slice aop pd.length capp).ownBlock = some k → w.heap.size + 1 ≤ k := fun k hk => by have := ((unhide Hvp5).lt k hk).1; simpa using this
      exact ownsRow_base (ownsRow_setOther (ownsRow_setOther (unhide Hvp5) (fun e => by have := hlo _ e.symm; simp at this; omega) _) (fun e => by have := hlo _ e.symm; simp at this; omega) _) (fun k hk => by have := hlo k hk; omega)
    · refine RowsAt.base ((unhide Hvr5).frm (X := fun k => k = w.heap.size) (Frm.setCell (X := fun k => k = w.heap.size) (Frm.setCell (X := fun k => k = w.heap.size) (Frm.refl _ _ _) (p := ⟨w.heap.size, 0, none⟩) (.inr rfl) _) (p := ⟨w.heap.size, 1, none⟩) (.inr rfl) _) (fun k hk _ h => by simp at hk; omega)) (by simp)

end Go.Proofs.YtdchbenfccofpaaGreatDoor
namespace Go.Proofs.YtdchbenfccofpaaGreatDoor
open Go.RowKit Db

set_option maxRecDepth 100000 in
set_option maxHeartbeats 8000000 in
theorem sText_any (q : Nat) (b : Bk) (pd : List (List UInt8 × List UInt8)) (cells : List (List Cl)) (w : World) (h : Sht' w q b pd cells) (ht : Tab w) :
    Calls Tryz.prog 98 #[.pointer (some ⟨q, 0, none⟩)] w fun e w' => ∃ u : ByteArray, e = .returned (.string u) ∧ L u = rptT cells ∧ Below w.heap.size w w' := by
  obtain ⟨p, vp, vc, vs, h⟩ := h
  obtain ⟨aoc, capc, rfl⟩ := ownsRow_form h.cs.own
  obtain ⟨c0, c1, c2⟩ := three_cells h.blk
  have hvl : vs.length = cells.length := h.cs.len
  have hc8 : cells.length ≤ 8 := h.few.2
  have hp4 : pd.length ≤ 4 := h.few.1
  rw [hvl] at c2
  have HG := hide h
  have Ht := hide ht
  clear h ht
  go_enter Tryz.func98, Tryz.ntmps98
  go_wp2_with fail
  go_loopg [3, 13] cells.length (fun m tv i wx => ∃ j : Nat, ∃ u : ByteArray, j ≤ cells.length ∧ m = cells.length - j ∧ i = .int .i64 j ∧ tv = .string u ∧ u.size ≤ 100 * j ∧ Hid (L u = jn 59 ((rptX cells).take j)) ∧ Hid (Below w.heap.size w wx))
  case atStart => exact ⟨0, ⟨#[]⟩, by omega, rfl, rfl, rfl, Nat.zero_le _, rfl, Below.refl _ _⟩
  case round =>
    obtain ⟨i, u, hi, rfl, rfl, rfl, hus, Hu, Hb3⟩ := hrel
    have hsz3 := (unhide Hb3).size
    by_cases hlt2 : i < cells.length
    · obtain ⟨row, hrow⟩ : ∃ row, cells[i]? = some row := ⟨cells[i], List.getElem?_eq_getElem hlt2⟩
      have hwid : row.length = pd.length := (unhide HG).wid row (List.mem_of_getElem? hrow)
      have Hok := hide ((unhide HG).ok row (List.mem_of_getElem? hrow))
      have HX : Hid ((rptX cells)[i]? = some (jn 44 (rowX row))) := by show _ = _; unfold rptX; rw [List.getElem?_map, hrow]; rfl
      obtain ⟨v, hv⟩ : ∃ v, vs[i]? = some v := ⟨vs[i]'(by omega), List.getElem?_eq_getElem _⟩
      have hR0 := (unhide HG).cs.row i v row hv hrow
      rw [hwid] at hR0
      have HR := hide hR0
      obtain ⟨aor, capr, rfl⟩ := ownsRow_form (unhide HR)
      obtain ⟨gc, _, e1, hgc, hgc'⟩ := ownsRow_some (unhide HG).cs.own (by omega)
      simp only [Value.slice.injEq] at e1
      obtain ⟨rfl, _, rfl⟩ := e1
      have dd0 := ownsRow_cell (unhide HG).cs.own (j := i) hv
      have dd := kept_cell' (unhide Hb3) dd0
      have Hin : Hid (∀ u1 : ByteArray, L u1 = jpre 59 (rptX cells) i → ∀ u2 : ByteArray, L u2 = jpre 59 (rptX cells) i ++ jn 44 (rowX row) → L u2 = jn 59 ((rptX cells).take (i + 1))) := by
        intro u1 h1 u2 h2
        rw [jn_pre (unhide HX), h2]
      have Hstart : Hid (∃ u1 : ByteArray, u1 = (if i = 0 then u else u ++ ⟨#[59]⟩) ∧ L u1 = jpre 59 (rptX cells) i ∧ u1.size ≤ 100 * i + 1) := by
        refine ⟨_, rfl, ?_, ?_⟩
        · by_cases h0 : i = 0
          · subst h0; rw [if_pos rfl, jpre_zero]; have := unhide Hu; simpa [jn] using this
          · rw [if_neg h0, L_append, unhide Hu, jpre_pos (by omega)]; rfl
        · by_cases h0 : i = 0
          · rw [if_pos h0]; omega
          · rw [if_neg h0, size_L, L_append, List.length_append, L_length]; show u.size + 1 ≤ _; omega
      obtain ⟨u1, hu1, hL1, hs1⟩ := unhide Hstart
      have HL1 := hide hL1
      have hin : (i : Int) < (cells.length : Int) := by omega
      clear Hstart hL1 hrow hv hR0 dd0
      by_cases h0 : i = 0
      · have hpos : ¬ (0 : Int) < (i : Int) := by omega
        rw [if_pos h0] at hu1
        clear h0
        go_wp2_with fail
        obtain ⟨W3, hW3⟩ : ∃ W3, wr = W3 := ⟨_, rfl⟩
        rw [hW3] at Hb3 hsz3 ⊢
        clear hW3 dd
        go_loopg [3, 24] pd.length (fun m tv iv wx => ∃ k : Nat, ∃ u : ByteArray, k ≤ pd.length ∧ m = pd.length - k ∧ iv = .int .i64 k ∧ tv = .string u ∧ u.size ≤ 810 + 22 * k ∧ Hid (u.size ≤ 100 * i + 1 + 22 * k) ∧ Hid (L u = jpre 59 (rptX cells) i ++ jn 44 ((rowX row).take k)) ∧ Hid (Below W3.heap.size W3 wx))
        case atStart => exact ⟨0, u, by omega, rfl, rfl, rfl, by rw [← hu1]; omega, (show _ ≤ _ from by rw [← hu1]; omega), (show _ = _ from by rw [← hu1, unhide HL1]; simp [jn]), Below.refl _ _⟩
        case round =>
          obtain ⟨k, u2, hk, rfl, rfl, rfl, hu2s, Hu2s, Hu2, Hb4⟩ := hrel
          have hsz4 := (unhide Hb4).size
          have Hbw4 := hide ((unhide Hb3).then' hsz3 (unhide Hb4))
          by_cases hlk : k < pd.length
          · obtain ⟨c, hc⟩ : ∃ c, row[k]? = some c := ⟨row[k]'(by omega), List.getElem?_eq_getElem _⟩
            have hro := ownsRow_below (unhide HR) (unhide Hbw4)
            obtain ⟨gr, _, e1, hgr, hgr'⟩ := ownsRow_some hro (by omega)
            simp only [Value.slice.injEq, true_and] at e1
            obtain ⟨rfl, rfl⟩ := e1
            have h2 := two_get (fun c : Cl => Value.int .i64 (gst c.2)) (fun c => Value.int .i64 c.1) row k c hc
            have d1 := ownsRow_cell hro (j := k * 2) h2.1
            have d2 := ownsRow_cell hro (j := k * 2 + 1) h2.2
            have Hoc := hide (unhide Hok c (List.mem_of_getElem? hc))
            have Hxc : Hid ((rowX row)[k]? = some (cellT c)) := by show _ = _; unfold rowX; rw [List.getElem?_map, hc]; rfl
            have Htx := hide (fun (wx : World) (hb : Below w.heap.size w wx) => gText_any c wx (unhide Hoc) ((unhide Ht).below hb))
            obtain ⟨c1, c2⟩ := c
            unfold gV at Htx
            simp only at d1 d2 Htx
            obtain ⟨z, hz⟩ : ∃ z, gst c2 = z := ⟨_, rfl⟩
            rw [hz] at d1 Htx
            have hszw := (unhide Hbw4).size
            clear hro h2 hc hz
            by_cases hk0 : k = 0
            · have hk1 : ¬ (0 : Int) < (k : Int) := by omega
              have Hk0 := hide hk0
              clear hk0
              go_wp2_with fail
              refine (unhide Htx _ (by exact (unhide Hbw4).alloc hszw _)).mono ?_
              rintro e w6 ⟨u6, rfl, hu6, hs6, hb6⟩
              have Hu6 : Hid (L (u2 ++ u6) = jpre 59 (rptX cells) i ++ jn 44 ((rowX row).take (k + 1))) := by
                show _ = _
                rw [L_append, unhide Hu2, hu6, jn_pre (unhide Hxc), unhide Hk0, jpre_zero]; simp [jn]
              have Hs6 : Hid ((u2 ++ u6).size ≤ 100 * i + 1 + 22 * (k + 1) ∧ (u2 ++ u6).size ≤ 810 + 22 * (k + 1)) := by
                have := unhide Hu2s
                show _ ∧ _
                rw [size_app]; omega
              have Hb6 := hide (((unhide Hb4).alloc hsz4 _).then' (by simp; omega) hb6)
              clear hu6 hb6
              go_wp2_with fail
              go_roundg (pd.length - (k + 1))
              case measure => omega
              case rel => exact ⟨k + 1, _, by omega, rfl, by go_num, rfl, (unhide Hs6).2, (unhide Hs6).1, unhide Hu6, unhide Hb6⟩
            · have hk1 : (0 : Int) < (k : Int) := by omega
              go_wp2_with fail
              refine (unhide Htx _ (by exact (unhide Hbw4).alloc hszw _)).mono ?_
              rintro e w6 ⟨u6, rfl, hu6, hs6, hb6⟩
              have Hu6 : Hid (L (u2 ++ ⟨#[44]⟩ ++ u6) = jpre 59 (rptX cells) i ++ jn 44 ((rowX row).take (k + 1))) := by
                show _ = _
                rw [L_append, L_append, unhide Hu2, hu6, jn_pre (unhide Hxc), jpre_pos (sep := 44) (i := k) (by omega), show L ⟨#[44]⟩ = [44] from rfl]; simp
              have Hs6 : Hid ((u2 ++ ⟨#[44]⟩ ++ u6).size ≤ 100 * i + 1 + 22 * (k + 1) ∧ (u2 ++ ⟨#[44]⟩ ++ u6).size ≤ 810 + 22 * (k + 1)) := by
                have := unhide Hu2s
                show _ ∧ _
                rw [size_app, size_app]; show u2.size + 1 + u6.size ≤ _ ∧ u2.size + 1 + u6.size ≤ _; omega
              have Hb6 := hide (((unhide Hb4).alloc hsz4 _).then' (by simp; omega) hb6)
              clear hu6 hb6
              go_wp2_with fail
              go_roundg (pd.length - (k + 1))
              case measure => omega
              case rel => exact ⟨k + 1, _, by omega, rfl, by go_num, rfl, (unhide Hs6).2, (unhide Hs6).1, unhide Hu6, unhide Hb6⟩
          · obtain rfl : k = pd.length := by omega
            have Hu7 : Hid (L u2 = jn 59 ((rptX cells).take (i + 1))) := unhide Hin _ (unhide HL1) u2 (by rw [unhide Hu2, List.take_of_length_le (by simp [rowX, hwid])])
            have hs7 : u2.size ≤ 100 * (i + 1) := by have := unhide Hu2s; omega
            go_wp2_with fail
            go_roundg (cells.length - (i + 1))
            case measure => omega
            case rel => exact ⟨i + 1, u2, by omega, rfl, by go_num, rfl, hs7, unhide Hu7, unhide Hbw4⟩
      · have hpos : (0 : Int) < (i : Int) := by omega
        have hposN : decide (0 < i) = true := by simp; omega
        rw [if_neg h0] at hu1
        clear h0
        go_wp2_with fail
        obtain ⟨W3, hW3⟩ : ∃ W3, wr = W3 := ⟨_, rfl⟩
        rw [hW3] at Hb3 hsz3 ⊢
        clear hW3 dd
        go_loopg [3, 24] pd.length (fun m tv iv wx => ∃ k : Nat, ∃ u : ByteArray, k ≤ pd.length ∧ m = pd.length - k ∧ iv = .int .i64 k ∧ tv = .string u ∧ u.size ≤ 810 + 22 * k ∧ Hid (u.size ≤ 100 * i + 1 + 22 * k) ∧ Hid (L u = jpre 59 (rptX cells) i ++ jn 44 ((rowX row).take k)) ∧ Hid (Below W3.heap.size W3 wx))
        case atStart => exact ⟨0, (u ++ ⟨#[59]⟩), by omega, rfl, rfl, rfl, by rw [← hu1]; omega, (show _ ≤ _ from by rw [← hu1]; omega), (show _ = _ from by rw [← hu1, unhide HL1]; simp [jn]), Below.refl _ _⟩
        case round =>
          obtain ⟨k, u2, hk, rfl, rfl, rfl, hu2s, Hu2s, Hu2, Hb4⟩ := hrel
          have hsz4 := (unhide Hb4).size
          have Hbw4 := hide ((unhide Hb3).then' hsz3 (unhide Hb4))
          by_cases hlk : k < pd.length
          · obtain ⟨c, hc⟩ : ∃ c, row[k]? = some c := ⟨row[k]'(by omega), List.getElem?_eq_getElem _⟩
            have hro := ownsRow_below (unhide HR) (unhide Hbw4)
            obtain ⟨gr, _, e1, hgr, hgr'⟩ := ownsRow_some hro (by omega)
            simp only [Value.slice.injEq, true_and] at e1
            obtain ⟨rfl, rfl⟩ := e1
            have h2 := two_get (fun c : Cl => Value.int .i64 (gst c.2)) (fun c => Value.int .i64 c.1) row k c hc
            have d1 := ownsRow_cell hro (j := k * 2) h2.1
            have d2 := ownsRow_cell hro (j := k * 2 + 1) h2.2
            have Hoc := hide (unhide Hok c (List.mem_of_getElem? hc))
            have Hxc : Hid ((rowX row)[k]? = some (cellT c)) := by show _ = _; unfold rowX; rw [List.getElem?_map, hc]; rfl
            have Htx := hide (fun (wx : World) (hb : Below w.heap.size w wx) => gText_any c wx (unhide Hoc) ((unhide Ht).below hb))
            obtain ⟨c1, c2⟩ := c
            unfold gV at Htx
            simp only at d1 d2 Htx
            obtain ⟨z, hz⟩ : ∃ z, gst c2 = z := ⟨_, rfl⟩
            rw [hz] at d1 Htx
            have hszw := (unhide Hbw4).size
            clear hro h2 hc hz
            by_cases hk0 : k = 0
            · have hk1 : ¬ (0 : Int) < (k : Int) := by omega
              have Hk0 := hide hk0
              clear hk0
              go_wp2_with fail
              refine (unhide Htx _ (by exact (unhide Hbw4).alloc hszw _)).mono ?_
              rintro e w6 ⟨u6, rfl, hu6, hs6, hb6⟩
              have Hu6 : Hid (L (u2 ++ u6) = jpre 59 (rptX cells) i ++ jn 44 ((rowX row).take (k + 1))) := by
                show _ = _
                rw [L_append, unhide Hu2, hu6, jn_pre (unhide Hxc), unhide Hk0, jpre_zero]; simp [jn]
              have Hs6 : Hid ((u2 ++ u6).size ≤ 100 * i + 1 + 22 * (k + 1) ∧ (u2 ++ u6).size ≤ 810 + 22 * (k + 1)) := by
                have := unhide Hu2s
                show _ ∧ _
                rw [size_app]; omega
              have Hb6 := hide (((unhide Hb4).alloc hsz4 _).then' (by simp; omega) hb6)
              clear hu6 hb6
              go_wp2_with fail
              go_roundg (pd.length - (k + 1))
              case measure => omega
              case rel => exact ⟨k + 1, _, by omega, rfl, by go_num, rfl, (unhide Hs6).2, (unhide Hs6).1, unhide Hu6, unhide Hb6⟩
            · have hk1 : (0 : Int) < (k : Int) := by omega
              go_wp2_with fail
              refine (unhide Htx _ (by exact (unhide Hbw4).alloc hszw _)).mono ?_
              rintro e w6 ⟨u6, rfl, hu6, hs6, hb6⟩
              have Hu6 : Hid (L (u2 ++ ⟨#[44]⟩ ++ u6) = jpre 59 (rptX cells) i ++ jn 44 ((rowX row).take (k + 1))) := by
                show _ = _
                rw [L_append, L_append, unhide Hu2, hu6, jn_pre (unhide Hxc), jpre_pos (sep := 44) (i := k) (by omega), show L ⟨#[44]⟩ = [44] from rfl]; simp
              have Hs6 : Hid ((u2 ++ ⟨#[44]⟩ ++ u6).size ≤ 100 * i + 1 + 22 * (k + 1) ∧ (u2 ++ ⟨#[44]⟩ ++ u6).size ≤ 810 + 22 * (k + 1)) := by
                have := unhide Hu2s
                show _ ∧ _
                rw [size_app, size_app]; show u2.size + 1 + u6.size ≤ _ ∧ u2.size + 1 + u6.size ≤ _; omega
              have Hb6 := hide (((unhide Hb4).alloc hsz4 _).then' (by simp; omega) hb6)
              clear hu6 hb6
              go_wp2_with fail
              go_roundg (pd.length - (k + 1))
              case measure => omega
              case rel => exact ⟨k + 1, _, by omega, rfl, by go_num, rfl, (unhide Hs6).2, (unhide Hs6).1, unhide Hu6, unhide Hb6⟩
          · obtain rfl : k = pd.length := by omega
            have Hu7 : Hid (L u2 = jn 59 ((rptX cells).take (i + 1))) := unhide Hin _ (unhide HL1) u2 (by rw [unhide Hu2, List.take_of_length_le (by simp [rowX, hwid])])
            have hs7 : u2.size ≤ 100 * (i + 1) := by have := unhide Hu2s; omega
            go_wp2_with fail
            go_roundg (cells.length - (i + 1))
            case measure => omega
            case rel => exact ⟨i + 1, u2, by omega, rfl, by go_num, rfl, hs7, unhide Hu7, unhide Hbw4⟩
    · obtain rfl : i = cells.length := by omega
      have Hfin : Hid (L u = rptT cells) := by
        show _ = _
        rw [unhide Hu]
        unfold rptT
        rw [List.take_of_length_le (by simp [rptX])]
      go_wp2_with fail
      go_ret
      exact ⟨u, rfl, unhide Hfin, unhide Hb3⟩

set_option maxRecDepth 100000 in
set_option maxHeartbeats 8000000 in
theorem sReport_any (Bl p : Nat) (b : Bk) (vp vr : Value) (vs : List Value) (pd : List (List UInt8 × List UInt8)) (pss : List (List Pt)) (B : Nat) (w : World) (hl : Led w Bl p b) (hp : w.ownsRow B 177 2 vp pd.length (cellsD pd)) (hr : RowsAt w B vr vs pss) (hp4 : pd.length ≤ 4) (h8 : pss.length ≤ 8)
    (hrow : ∀ (i : Nat) ps, pss[i]? = some ps → (∃ n e, Wf n e ps) ∧ ∀ x ∈ ps, PtOk i x) (ht : Tab w) :
    Calls Tryz.prog 58 #[.agg #[vp, vr], .pointer (some ⟨p, 0, none⟩)] w fun e w' => ((pss.any (selq (notB b)) = true ∧ e = .returned (.tuple #[.string ⟨#[]⟩, .int .i64 7])) ∨ (pss.any (selq (notB b)) = false ∧ ∃ u, e = .returned (.tuple #[.string u, .int .i64 0]) ∧ L u = rptT (shC b (pdv pd) pss))) ∧ Below w.heap.size w w' := by
  obtain ⟨aop, capp, rfl⟩ := ownsRow_form hp
  obtain ⟨aor, capr, rfl⟩ := ownsRow_form hr.own
  have Hl := hide hl
  have Hp := hide hp
  have Hr := hide hr
  have Hrow := hide hrow
  have Ht := hide ht
  have hvl : vs.length ≤ 8 := by rw [hr.len]; exact h8
  have Hlen := hide hr.len
  obtain ⟨W, hW, B1, hbW, hWs⟩ := one_new w #[.slice aop pd.length capp, .slice aor vs.length capr] 110
  have HB1 := hide B1
  have HbW := hide hbW
  obtain ⟨x0, x1, _, _, lx⟩ := two_cells B1
  have Hha := hide (sHasAccounts_any Bl p b _ vs pss B W (hl.kept hbW) (hr.kept hbW) h8)
  obtain ⟨an, han⟩ : ∃ an, pss.any (selq (notB b)) = an := ⟨_, rfl⟩
  rw [han] at Hha ⊢
  clear hl hp hr hrow ht B1 hbW han
  go_enter Tryz.func58, Tryz.ntmps58
  go_wp2_with fail
  try rw [hW]
  refine (unhide Hha).mono ?_
  rintro e w2 ⟨rfl, hb2⟩
  have Hb2 := hide ((unhide HbW).then' (by omega) hb2)
  have HB2 := hide ((unhide HB1).kept hb2)
  obtain ⟨y0, y1, _, _, ly⟩ := two_cells (unhide HB2)
  have hsz2 := (unhide Hb2).size
  clear hb2 Hha hW x0 x1 lx
  cases an with
  | true =>
    go_wp2_with fail
    go_ret2
    exact ⟨rfl, unhide Hb2⟩
  | false =>
    have Hst : Hid (ShtIn (w2.alloc (.cells #[.slice aop pd.length capp, .pointer (some ⟨p, 0, none⟩), .slice none 0 0] 162)) w2.heap.size w.heap.size b pd [] p (.slice aop pd.length capp) (.slice none 0 0) []) := by
      have hb : Below w.heap.size w (w2.alloc (.cells #[.slice aop pd.length capp, .pointer (some ⟨p, 0, none⟩), .slice none 0 0] 162)) := (unhide Hb2).alloc hsz2 _
      refine ⟨⟨Blk.new _ _ _, ⟨Bl, (unhide Hl).kept hb⟩, ⟨B, ownsRow_below (unhide Hp) hb⟩, GCells.nil _ _, by simp, ⟨hp4, by simp⟩, by simp⟩, hsz2, ?_⟩
      intro w' hb'
      exact ⟨⟨Bl, (unhide Hl).kept (hb.trans hb')⟩, ⟨B, ownsRow_below (unhide Hp) (hb.trans hb')⟩⟩
    have Hst2 : Hid (Below w.heap.size w (w2.alloc (.cells #[.slice aop pd.length capp, .pointer (some ⟨p, 0, none⟩), .slice none 0 0] 162))) := (unhide Hb2).alloc hsz2 _
    go_wp2_with fail
    go_loopg [22] vs.length (fun m i wr => ∃ j : Nat, j ≤ vs.length ∧ m = vs.length - j ∧ i = .int .i64 j ∧ Hid (∃ vc us, ShtIn wr w2.heap.size w.heap.size b pd (shC b (pdv pd) (pss.take j)) p (.slice aop pd.length capp) vc us) ∧ Hid (Below w.heap.size w wr))
    case atStart => exact ⟨0, by omega, rfl, rfl, ⟨_, _, unhide Hst⟩, unhide Hst2⟩
    case round =>
      obtain ⟨j, hj, rfl, rfl, HS, Hb⟩ := hrel
      have hsz := (unhide Hb).size
      by_cases hlt : j < vs.length
      · obtain ⟨v, hv⟩ : ∃ v, vs[j]? = some v := ⟨vs[j], List.getElem?_eq_getElem hlt⟩
        obtain ⟨ps, hps⟩ : ∃ ps, pss[j]? = some ps := ⟨pss[j]'(by have := unhide Hlen; omega), List.getElem?_eq_getElem _⟩
        obtain ⟨g, _, e1, hg, hg'⟩ := ownsRow_some (unhide Hr).own (by omega)
        simp only [Value.slice.injEq, true_and] at e1
        obtain ⟨rfl, rfl⟩ := e1
        have d := ownsRow_cell (ownsRow_below (unhide Hr).own (unhide Hb)) (j := j) hv
        have hrw := (unhide Hr).row j v ps hv hps
        have hpl := (unhide Hr).bd ps (List.mem_of_getElem? hps)
        obtain ⟨aov, capv, rfl⟩ := ownsRow_form hrw
        obtain ⟨hwf, hpt⟩ := unhide Hrow j ps hps
        have hcl : (shC b (pdv pd) (pss.take j)).length = j := by rw [shC_len, List.length_take]; have := unhide Hlen; omega
        have Hsn : Hid (shC b (pdv pd) (pss.take j) ++ [rowP b (pdv pd) (shC b (pdv pd) (pss.take j)) ps pd.length] = shC b (pdv pd) (pss.take (j + 1))) := by
          show _ = _
          rw [shC_snoc hps, show (pdv pd).length = pd.length by simp [pdv]]
        have Hlay : Hid (∀ o : Obj, Calls Tryz.prog 97 #[.pointer (some ⟨w2.heap.size, 0, none⟩), .agg #[.slice aov ps.length capv]] (wr.alloc o) fun e w' => e = .returned (.tuple #[]) ∧ (∃ vc' vs', ShtIn w' w2.heap.size w.heap.size b pd (shC b (pdv pd) (pss.take (j + 1))) p (.slice aop pd.length capp) vc' vs') ∧ Below w.heap.size (wr.alloc o) w') := by
          intro o
          obtain ⟨vc, us, hs⟩ := unhide HS
          have hbo : Below wr.heap.size wr (wr.alloc o) := (Below.refl _ _).alloc (Nat.le_refl _) _
          have := sLay_any w2.heap.size w.heap.size b pd _ p _ vc us _ ps B (wr.alloc o) (hs.kept hbo hsz) (by simp; omega) (ownsRow_below (ownsRow_below hrw (unhide Hb)) hbo) hpl (by rw [hcl]; omega) hwf (by rw [hcl]; exact hpt)
          rw [unhide Hsn] at this
          exact this
        clear hv hps hrw hwf hpt hcl
        go_wp2_with fail
        refine (unhide Hlay _).mono ?_
        rintro e w4 ⟨rfl, hs4, hb4⟩
        have HS4 := hide hs4
        have Hb4 := hide (((unhide Hb).alloc hsz _).trans hb4)
        clear hs4 hb4 Hlay
        go_wp2_with fail
        go_roundg (vs.length - (j + 1))
        case measure => omega
        case rel => exact ⟨j + 1, by omega, rfl, by go_num, unhide HS4, unhide Hb4⟩
      · obtain rfl : j = vs.length := by omega
        have htk : pss.take vs.length = pss := by rw [unhide Hlen]; exact List.take_length
        have Htx : Hid (Calls Tryz.prog 98 #[.pointer (some ⟨w2.heap.size, 0, none⟩)] wr fun e w' => ∃ u : ByteArray, e = .returned (.string u) ∧ L u = rptT (shC b (pdv pd) pss) ∧ Below wr.heap.size wr w') := by
          obtain ⟨vc, us, hs⟩ := unhide HS
          rw [htk] at hs
          exact sText_any w2.heap.size b pd _ wr ⟨_, _, _, _, hs.toShtAt⟩ ((unhide Ht).below (unhide Hb))
        clear htk
        go_wp2_with fail
        refine (unhide Htx).mono ?_
        rintro e w5 ⟨u, rfl, hu, hb5⟩
        have Hu := hide hu
        have Hb5 := hide ((unhide Hb).then' hsz hb5)
        clear hu hb5 Htx
        go_wp2_with fail
        go_ret2
        exact ⟨⟨u, rfl, unhide Hu⟩, unhide Hb5⟩

end Go.Proofs.YtdchbenfccofpaaGreatDoor
namespace Go.Proofs.YtdchbenfccofpaaGreatDoor
open Go.RowKit Db

theorem opnd_ptOk {e : List UInt8} {ps : List Pt} (h : Opnd e ps) : ∀ p ∈ ps, inR p.2 = true := by
  rcases h with ⟨_, hl, hd, rfl⟩ | ⟨c, ds, rfl, _, hd, hk, rfl⟩
  · intro p hp
    simp only [List.mem_singleton] at hp
    subst hp
    exact val_in hl hd
  · intro p hp
    simp only [List.mem_singleton] at hp
    subst hp
    refine val_in ?_ hd
    rcases hk with ⟨_, h⟩ | ⟨_, h⟩ <;> omega
theorem wf_inR {n : Nat} : ∀ {e : List UInt8} {ps : List Pt}, Wf n e ps → ∀ p ∈ ps, inR p.2 = true := by
  induction n with
  | zero => intro e ps h; exact absurd h (by simp [Wf])
  | succ n ih =>
    intro e ps h
    rcases h with ⟨_, h⟩ | ⟨_, h2⟩ | ⟨_, p, h2, rfl⟩ | ⟨h1, p, r, h2, h3, rfl⟩
    · exact opnd_ptOk h
    · exact ih h2
    · intro x hx
      simp at hx
      rcases hx with hx | rfl
      · exact ih h2 x hx
      · rfl
    · intro x hx
      simp at hx
      rcases hx with hx | hx | rfl
      · exact ih h2 x hx
      · exact ih h3 x hx
      · rfl
theorem ptOk_of {t : ByteArray} {pd : List (List UInt8 × List UInt8)} {rows : List (List UInt8)} {pss : List (List Pt)} {pl : Int} (hf : Db.Form (L t) pd rows pss) (ho : outc (pdv pd) pss = (0, pl)) : ∀ (i : Nat) ps, pss[i]? = some ps → (∃ n e, Wf n e ps) ∧ ∀ x ∈ ps, PtOk i x := by
  intro i ps hps
  obtain ⟨e, he⟩ : ∃ e, rows[i]? = some e := by
    have h1 := (List.getElem?_eq_some_iff.1 hps).1
    exact ⟨rows[i]'(by rw [hf.len]; exact h1), List.getElem?_eq_getElem _⟩
  have h := hf.row i e ps he hps
  obtain ⟨n, hn⟩ := h.wf
  refine ⟨⟨n, e, hn⟩, fun x hx => ⟨wf_inR hn x hx, fun hold => ⟨h.pos x hx, ?_⟩⟩⟩
  have h1 := badN_all pss 0 (by omega) (outc_few ho rfl).2.2.2 i ps hps
  exact nameB_lt h1 h.pos i (by omega) x hx hold

set_option maxRecDepth 100000 in
set_option maxHeartbeats 2000000 in
theorem dayReport_any (Bl p : Nat) (b : Bk) (s : ByteArray) (w : World) (hl : Led w Bl p b) (hm : s.size ≤ maxLen) (ht : Tab w) :
    Calls Tryz.prog 27 #[.pointer (some ⟨p, 0, none⟩), .string s] w fun e w' => ∃ (u : ByteArray) (er : Int), e = .returned (.tuple #[.string u, .int .i64 er]) ∧ RepIs b s u er ∧ Below w.heap.size w w' := by
  have hpl : p < w.heap.size := by obtain ⟨_, _, _, _, h⟩ := hl; exact h.blk.lt
  by_cases hs : 200 < s.size
  · clear hl ht
    go_enter Tryz.func27, Tryz.ntmps27
    go_wp2_with fail
    refine (read_long s _ hs hm).mono ?_
    rintro e w1 ⟨rfl, hb⟩
    have Hb := hide hb
    have hsz := hb.size
    clear hb
    go_wp2_with fail
    go_ret2
    exact ⟨_, 1, rfl, .inl ⟨hs, rfl, rfl⟩, (unhide Hb).alloc hsz _⟩
  · have hs' : s.size ≤ 200 := by omega
    have Ht := hide ht
    have Hl := hide hl
    clear ht hl
    go_enter Tryz.func27, Tryz.ntmps27
    go_wp2_with fail
    refine (read_short s _ hs').mono ?_
    rintro e w1 ⟨hb, ⟨pp, rfl, hp, hp0⟩ | ⟨vp, vr, pd, rows, pss, er, pl, rfl, hf, ho, hz, hok⟩⟩
    · have Hb := hide hb
      have hsz := hb.size
      have Hc : Hid (RepIs b s ⟨#[]⟩ 2) := .inr (.inl ⟨hs', rfl, by rw [hp]; exact hp0, rfl⟩)
      clear hb hp
      go_wp2_with fail
      go_ret2
      exact ⟨_, 2, rfl, unhide Hc, (unhide Hb).alloc hsz _⟩
    · have Hb := hide hb
      have hsz := hb.size
      by_cases h0 : er = 0
      · subst h0
        obtain ⟨hvp, vs, hvr⟩ := hok rfl
        obtain ⟨a1, k1, rfl⟩ := ownsRow_form hvp
        obtain ⟨a2, k2, rfl⟩ := ownsRow_form hvr.own
        have hsm := outc_few ho rfl
        have hpl4 : pd.length ≤ 4 := by have := hsm.1; simpa [pdv] using this
        obtain ⟨W, hW, B1, hbW, hWs⟩ := one_new w1 #[.slice a1 pd.length k1, .slice a2 vs.length k2] 110
        obtain ⟨x0, x1, _, _, lx⟩ := two_cells B1
        have HbW := hide (hb.then' hsz hbW)
        have hpW : p < W.heap.size := by omega
        have Hrp := hide (fun (wx : World) (hbx : Below W.heap.size W wx) => sReport_any Bl p b (.slice a1 pd.length k1) (.slice a2 vs.length k2) vs pd pss w.heap.size wx ((unhide Hl).kept ((unhide HbW).then' (by omega) hbx)) (ownsRow_below (ownsRow_below hvp hbW) hbx) ((hvr.kept hbW).kept hbx) hpl4 hsm.2.1 (ptOk_of hf ho) ((unhide Ht).below ((unhide HbW).then' (by omega) hbx)))
        have Hfo : Hid (∀ u er, ((pss.any (selq (notB b)) = true ∧ er = 7 ∧ u = ⟨#[]⟩) ∨ (pss.any (selq (notB b)) = false ∧ er = 0 ∧ L u = rptT (shC b (pdv pd) pss))) → RepIs b s u er) := fun u er h => .inr (.inr ⟨hs', pd, rows, pss, 0, pl, hf, ho, by
          rcases h with ⟨h1, h2, h3⟩ | ⟨h1, h2, h3⟩
          · exact .inr (.inl ⟨rfl, h1, h2, h3⟩)
          · exact .inr (.inr ⟨rfl, h1, h2, h3⟩)⟩)
        have Hrp2 : Hid (∀ (wx : World), Below W.heap.size W wx → Calls Tryz.prog 58 #[.agg #[.slice a1 pd.length k1, .slice a2 vs.length k2], .pointer (some ⟨p, 0, none⟩)] wx fun e w' => ∃ (u : ByteArray) (er : Int), e = .returned (.tuple #[.string u, .int .i64 er]) ∧ RepIs b s u er ∧ Below wx.heap.size wx w') := by
          intro wx hbx
          refine (unhide Hrp wx hbx).mono ?_
          rintro e w' ⟨⟨h1, rfl⟩ | ⟨h1, u, rfl, h2⟩, hb'⟩
          · exact ⟨_, 7, rfl, unhide Hfo _ _ (.inl ⟨h1, rfl, rfl⟩), hb'⟩
          · exact ⟨u, 0, rfl, unhide Hfo _ _ (.inr ⟨h1, rfl, h2⟩), hb'⟩
        clear hb hf ho hz hok hvp hvr hsm B1 hbW Hrp Hfo
        go_upto_region 4 with fail
        try rw [hW]
        clear hW
        go_region_held3 (fun w' => w'.cell? ⟨w1.heap.size, 0, none⟩ = some (.slice a1 pd.length k1) ∧ w'.cell? ⟨w1.heap.size, 1, none⟩ = some (.slice a2 vs.length k2)) (first | go_keep | exact ⟨kept_cell' hb4 (by simp [*]), kept_cell' hb4 (by simp [*])⟩) (first | (go_at_call 58; refine (unhide Hrp2 _ (by exact (Below.refl _ _).drew)).mono ?_; rintro e w4 ⟨u, er, rfl, hu, hb4⟩))
        have Hu := hide hu
        have Hb4 := hide ((unhide HbW).then' (by omega) hb4.undrew)
        clear hu hb4
        go_wp2_with fail
        go_ret2
        exact ⟨u, er, rfl, unhide Hu, unhide Hb4⟩
      · obtain ⟨rfl, rfl⟩ := hz h0
        have Hc : Hid (RepIs b s ⟨#[]⟩ er) := .inr (.inr ⟨hs', pd, rows, pss, er, pl, hf, ho, .inl ⟨h0, rfl, rfl⟩⟩)
        have hne : (er == 0) = false := by simpa using h0
        clear hb hf ho hz hok
        go_wp2_with fail
        go_ret2
        exact ⟨_, er, rfl, unhide Hc, (unhide Hb).alloc hsz _⟩

set_option maxRecDepth 100000 in
set_option maxHeartbeats 2000000 in
theorem refReport_any (B p : Nat) (b : Bk) (s u : ByteArray) (w : World) (h : Rfd w B p b) (hm : s.size ≤ maxLen) (er : Int) (hc : RepIs b s u er) :
    Calls Tryz.prog 124 #[.pointer (some ⟨p, 0, none⟩), .string s] w fun e w' => e = .returned (.tuple #[.string u, .int .i64 er]) ∧ Below w.heap.size w w' := by
  rcases hc with ⟨hs, rfl, rfl⟩ | ⟨hs, rfl, hp, rfl⟩ | ⟨hs, pd, rows, pss, e0, pl, hf, ho, ⟨h0, rfl, rfl⟩ | ⟨rfl, ha, rfl, rfl⟩ | ⟨rfl, ha, rfl, hu⟩⟩
  · clear h
    go_enter Tryz.func124, Tryz.ntmps124
    go_wp2_with fail
    refine (refRead_long s _ hs hm).mono ?_
    rintro e w1 ⟨rfl, hb⟩
    have Hb := hide hb
    have hsz := hb.size
    clear hb
    go_wp2_with fail
    go_ret2
    exact ⟨rfl, (unhide Hb).alloc hsz _⟩
  · obtain ⟨pp, hpp⟩ : ∃ pp, plc 0 0 0 0 (L s) = pp := ⟨_, rfl⟩
    have Hp := hide hp
    have Hpp := hide hpp
    clear hp hpp h
    go_enter Tryz.func124, Tryz.ntmps124
    go_wp2_with fail
    refine (refRead_form s _ hs (unhide Hp)).mono ?_
    rintro e w1 ⟨rfl, hb⟩
    rw [unhide Hpp]
    have Hb := hide hb
    have hsz := hb.size
    clear hb
    go_wp2_with fail
    go_ret2
    exact ⟨rfl, (unhide Hb).alloc hsz _⟩
  · have Hf := hide hf
    have Ho := hide ho
    have hne : (er == 0) = false := by simpa using h0
    clear hf ho h
    go_enter Tryz.func124, Tryz.ntmps124
    go_wp2_with fail
    refine (refRead_ok s _ hs pd rows pss (unhide Hf)).mono ?_
    rintro e w1 ⟨a1, n1, k1, a2, n2, k2, a3, n3, k3, er', pl', rfl, ho', hb, _⟩
    have hh := (unhide Ho).symm.trans ho'
    simp only [Prod.mk.injEq] at hh
    obtain ⟨rfl, rfl⟩ := hh
    have Hb := hide hb
    have hsz := hb.size
    clear hb ho'
    go_wp2_with fail
    go_ret2
    exact ⟨rfl, (unhide Hb).alloc hsz _⟩
  · refine (refReport_ok B p b s w hs pd rows pss pl hf ho h).mono ?_
    rintro e w1 ⟨⟨_, rfl⟩ | ⟨h1, _⟩, hb⟩
    · exact ⟨rfl, hb⟩
    · rw [ha] at h1; cases h1
  · refine (refReport_ok B p b s w hs pd rows pss pl hf ho h).mono ?_
    rintro e w1 ⟨⟨h1, _⟩ | ⟨_, u', rfl, hu'⟩, hb⟩
    · rw [ha] at h1; cases h1
    · obtain rfl : u' = u := L_inj (hu'.trans hu.symm)
      exact ⟨rfl, hb⟩

end Go.Proofs.YtdchbenfccofpaaGreatDoor
namespace Go.Proofs.YtdchbenfccofpaaGreatDoor
open Go.RowKit Db

/-- What Check answers. -/
def CheckIs (s : ByteArray) (er pl : Int) : Prop :=
  (200 < s.size ∧ er = 1 ∧ pl = 0) ∨ (s.size ≤ 200 ∧ er = 2 ∧ plc 0 0 0 0 (L s) = pl ∧ 0 ≤ pl) ∨ (s.size ≤ 200 ∧ ∃ pd rows pss, Db.Form (L s) pd rows pss ∧ outc (pdv pd) pss = (er, pl))

set_option maxHeartbeats 1000000 in
theorem dayCheck_any (s : ByteArray) (w : World) (hm : s.size ≤ maxLen) :
    Calls Tryz.prog 39 #[.string s] w fun e w' => ∃ er pl : Int, e = .returned (.tuple #[.int .i64 er, .int .i64 pl]) ∧ CheckIs s er pl ∧ Below w.heap.size w w' := by
  by_cases hs : 200 < s.size
  · go_enter Tryz.func39, Tryz.ntmps39
    go_wp2_with fail
    refine (read_long s _ hs hm).mono ?_
    rintro e w1 ⟨rfl, hb⟩
    have Hb := hide hb
    have hsz := hb.size
    clear hb
    go_wp2_with fail
    go_ret2
    exact ⟨1, 0, rfl, .inl ⟨hs, rfl, rfl⟩, (unhide Hb).alloc hsz _⟩
  · have hs' : s.size ≤ 200 := by omega
    go_enter Tryz.func39, Tryz.ntmps39
    go_wp2_with fail
    refine (read_short s _ hs').mono ?_
    rintro e w1 ⟨hb, ⟨p, rfl, hp, hp0⟩ | ⟨vp, vr, pd, rows, pss, er, pl, rfl, hf, ho, hz, hok⟩⟩
    · have Hb := hide hb
      have hsz := hb.size
      have Hc : Hid (CheckIs s 2 p) := .inr (.inl ⟨hs', rfl, hp, hp0⟩)
      clear hb hp
      go_wp2_with fail
      go_ret2
      exact ⟨2, p, rfl, unhide Hc, (unhide Hb).alloc hsz _⟩
    · have Hb := hide hb
      have hsz := hb.size
      have Hc : Hid (CheckIs s er pl) := .inr (.inr ⟨hs', pd, rows, pss, hf, ho⟩)
      have hvp : ∃ a n c, vp = .slice a n c := by
        by_cases h0 : er = 0
        · obtain ⟨a, c, h⟩ := ownsRow_form (hok h0).1; exact ⟨_, _, _, h⟩
        · exact ⟨_, _, _, (hz h0).1⟩
      have hvr : ∃ a n c, vr = .slice a n c := by
        by_cases h0 : er = 0
        · obtain ⟨vs, hvs⟩ := (hok h0).2
          obtain ⟨a, c, h⟩ := ownsRow_form hvs.own; exact ⟨_, _, _, h⟩
        · exact ⟨_, _, _, (hz h0).2⟩
      obtain ⟨a1, n1, k1, rfl⟩ := hvp
      obtain ⟨a2, n2, k2, rfl⟩ := hvr
      clear hb hf ho hz hok
      go_wp2_with fail
      go_ret2
      exact ⟨er, pl, rfl, unhide Hc, (unhide Hb).alloc hsz _⟩

end Go.Proofs.YtdchbenfccofpaaGreatDoor
namespace Db
open Go

/-- Digits without a 0 ahead of another digit. -/
def trm : List UInt8 → List UInt8
  | [] => []
  | [c] => [c]
  | c :: d :: r => if c.toNat = 48 then trm (d :: r) else c :: d :: r
theorem trm_zeros (z : List UInt8) (hz : ∀ c ∈ z, c.toNat = 48) (c : UInt8) : trm (z ++ [c]) = [c] := by
  induction z with
  | nil => rfl
  | cons x t ih =>
    have hx := hz x (by simp)
    have ih := ih (fun y hy => hz y (by simp [hy]))
    cases t with
    | nil => simp [trm, hx]
    | cons y r => simpa [trm, hx] using ih
theorem trm_snoc (ds : List UInt8) (h : ∃ x ∈ ds, ¬ x.toNat = 48) (c : UInt8) : trm (ds ++ [c]) = trm ds ++ [c] := by
  induction ds with
  | nil => obtain ⟨x, hx, _⟩ := h; cases hx
  | cons x t ih =>
    by_cases hx : x.toNat = 48
    · have h' : ∃ y ∈ t, ¬ y.toNat = 48 := by
        obtain ⟨y, hy, hn⟩ := h
        rw [List.mem_cons] at hy
        rcases hy with rfl | hy
        · exact absurd hx hn
        · exact ⟨y, hy, hn⟩
      have ih := ih h'
      cases t with
      | nil => obtain ⟨y, hy, _⟩ := h'; cases hy
      | cons y r => simpa [trm, hx] using ih
    · cases t with
      | nil => simp [trm, hx]
      | cons y r => simp [trm, hx]
theorem valGo_snoc' (l : List UInt8) (c : UInt8) : ∀ n, valGo n (l ++ [c]) = 10 * valGo n l + ((c.toNat : Int) - 48) := by
  induction l with
  | nil => intro n; rfl
  | cons x t ih => intro n; exact ih _
theorem val_zero (z : List UInt8) (hd : ∀ c ∈ z, digB c.toNat = true) (h : val z = 0) : ∀ c ∈ z, c.toNat = 48 := by
  have key : ∀ (z : List UInt8) (n : Int), 0 ≤ n → (∀ c ∈ z, digB c.toNat = true) → valGo n z = 0 → n = 0 ∧ ∀ c ∈ z, c.toNat = 48 := by
    intro z
    induction z with
    | nil => intro n _ _ h; exact ⟨h, by simp⟩
    | cons x t ih =>
      intro n hn hd h
      have hx := hd x (by simp)
      simp [digB] at hx
      have := ih (10 * n + ((x.toNat : Int) - 48)) (by omega) (fun c hc => hd c (by simp [hc])) h
      refine ⟨by omega, ?_⟩
      intro c hc
      rw [List.mem_cons] at hc
      rcases hc with rfl | hc
      · omega
      · exact this.2 c hc
  exact (key z 0 (by omega) hd h).2
theorem zero_val (z : List UInt8) (hz : ∀ c ∈ z, c.toNat = 48) : val z = 0 := by
  have : ∀ (z : List UInt8), (∀ c ∈ z, c.toNat = 48) → valGo 0 z = 0 := by
    intro z
    induction z with
    | nil => intro _; rfl
    | cons x t ih =>
      intro h
      have hx := h x (by simp)
      show valGo (10 * 0 + ((x.toNat : Int) - 48)) t = 0
      rw [hx]
      exact ih (fun c hc => h c (by simp [hc]))
  exact this z hz
theorem u8_of {c : UInt8} {n : Nat} (h : c.toNat = n) : UInt8.ofNat n = c := by rw [← h]; simp
/-- Digits without noughts ahead are those of their value. -/
theorem trm_dec (ds : List UInt8) (hn : ds ≠ []) (hd : ∀ c ∈ ds, digB c.toNat = true) : trm ds = Lib.decDigits (val ds).toNat := by
  have key : ∀ (r : List UInt8), (∀ c ∈ r, digB c.toNat = true) → r ≠ [] → trm r.reverse = Lib.decDigits (val r.reverse).toNat := by
    intro r
    induction r with
    | nil => intro _ h; exact absurd rfl h
    | cons c t ih =>
      intro hd _
      have hc := hd c (by simp)
      simp [digB] at hc
      have hdt : ∀ x ∈ t.reverse, digB x.toNat = true := fun x hx => hd x (by simp at hx; simp [hx])
      have hv : val (t.reverse ++ [c]) = 10 * val t.reverse + ((c.toNat : Int) - 48) := valGo_snoc' t.reverse c 0
      have hp := val_pos t.reverse hdt
      rw [List.reverse_cons]
      by_cases h0 : val t.reverse = 0
      · rw [trm_zeros _ (val_zero _ hdt h0), hv, h0, Lib.decDigits_one (by omega)]
        rw [u8_of (c := c) (by omega)]
      · have hex : ∃ x ∈ t.reverse, ¬ x.toNat = 48 := by
          apply Classical.byContradiction
          intro hne
          refine h0 (zero_val _ (fun x hx => ?_))
          apply Classical.byContradiction
          intro hx48
          exact hne ⟨x, hx, hx48⟩
        have htn : t ≠ [] := by intro e; subst e; obtain ⟨x, hx, _⟩ := hex; cases hx
        rw [trm_snoc _ hex, ih (fun x hx => hd x (by simp [hx])) htn, hv]
        have e1 : (10 * val t.reverse + ((c.toNat : Int) - 48)).toNat = 10 * (val t.reverse).toNat + (c.toNat - 48) := by omega
        rw [e1]
        conv => rhs; rw [Lib.decDigits]
        rw [dif_neg (by omega)]
        have e2 : (10 * (val t.reverse).toNat + (c.toNat - 48)) / 10 = (val t.reverse).toNat := by omega
        have e3 : (10 * (val t.reverse).toNat + (c.toNat - 48)) % 10 = c.toNat - 48 := by omega
        rw [e2, e3, u8_of (c := c) (by omega)]
  have := key ds.reverse (fun c hc => hd c (by simpa using hc)) (by simpa using hn)
  simpa using this

/-- A sign as a byte. -/
def u8 (s : Int) : UInt8 := UInt8.ofNat s.toNat
theorem u8_toNat (c : UInt8) : u8 (c.toNat : Int) = c := by simp [u8]
/-- A piece: its text, how firmly it holds. -/
abbrev Pc := List UInt8 × Nat
def brk (p : Pc) (least : Nat) : List UInt8 := if p.2 < least then 40 :: (p.1 ++ [41]) else p.1
def rkS (o : Int) : Nat := if o == 42 || o == 47 then 2 else 1
def wordP (p : Pt) : List UInt8 := if p.1 == 48 then Lib.itoa p.2 else u8 p.1 :: Lib.itoa p.2
def sEval : List Pt → List Pc → List Pc
  | [], st => st
  | p :: r, st => if opdB p.1 then sEval r ((wordP p, 3) :: st) else if p.1 == 126 then
      match st with
      | x :: t => sEval r ((45 :: brk x 3, 3) :: t)
      | [] => []
    else match st with
      | y :: x :: t => sEval r ((brk x (rkS p.1) ++ u8 p.1 :: brk y (rkS p.1 + 1), rkS p.1) :: t)
      | _ => st
def ShowR (ps : List Pt) (x : Pc) : Prop := ∀ q st, sEval (ps ++ q) st = sEval q (x :: st)
theorem ShowR.uniq {ps : List Pt} {x y : Pc} (h : ShowR ps x) (k : ShowR ps y) : x = y := by
  have h1 := h [] []
  have h2 := k [] []
  rw [h1] at h2
  simpa [sEval] using h2
theorem showR_leaf {p : Pt} (h : opdB p.1 = true) : ShowR [p] (wordP p, 3) := fun q st => by simp [sEval, h]
theorem showR_neg {ps : List Pt} {x : Pc} (h : ShowR ps x) : ShowR (ps ++ [(126, 0)]) (45 :: brk x 3, 3) := fun q st => by
  rw [List.append_assoc, h]; simp [sEval, opdB, selB, oldB]
theorem showR_bin {p q : List Pt} {x y : Pc} {o : Int} (ho : opB o = true) (hp : ShowR p x) (hq : ShowR q y) : ShowR (p ++ q ++ [(o, 0)]) (brk x (rkS o) ++ u8 o :: brk y (rkS o + 1), rkS o) := fun r st => by
  rw [List.append_assoc, List.append_assoc, hp, hq]
  have := opd_op ho
  simp [sEval, this.1, this.2]
/-- How firmly the operation holds that is worked out last. -/
def rkO (o : Int) : Nat := if o == 43 || o == 45 then 1 else if o == 42 || o == 47 then 2 else 3
theorem rkO_op {o : Int} (h : opB o = true) : rkO o = rkS o := by
  simp [opB] at h; rcases h with ((rfl | rfl) | rfl) | rfl <;> rfl
theorem wf_show {n : Nat} : ∀ {e : List UInt8} {ps : List Pt}, Wf n e ps → ∃ x, ShowR ps x := by
  induction n with
  | zero => intro e ps h; exact absurd h (by simp [Wf])
  | succ n ih =>
    intro e ps h
    rcases h with ⟨_, h⟩ | ⟨_, h2⟩ | ⟨_, p, h2, rfl⟩ | ⟨h1, p, r, h2, h3, rfl⟩
    · obtain ⟨p, rfl, hp⟩ := opnd_opd h
      exact ⟨_, showR_leaf hp⟩
    · exact ih h2
    · obtain ⟨x, hx⟩ := ih h2
      exact ⟨_, showR_neg hx⟩
    · obtain ⟨x, hx⟩ := ih h2
      obtain ⟨y, hy⟩ := ih h3
      exact ⟨_, showR_bin h1 hx hy⟩
/-- An operand in its plain form. -/
theorem opnd_word {e : List UInt8} {p : Pt} (h : Opnd e [p]) : wordP p = (if digB (hd e) then trm e else e.take 1 ++ trm (e.drop 1)) ∧ 1 ≤ e.length := by
  rcases h with ⟨h1, _, hd1, he⟩ | ⟨c, ds, rfl, h1, hd1, hs, he⟩
  · simp at he
    subst he
    have hn : e ≠ [] := by intro e0; subst e0; simp at h1
    refine ⟨?_, h1⟩
    have hh : digB (hd e) = true := by
      cases e with
      | nil => exact absurd rfl hn
      | cons c r => exact hd1 c (by simp)
    have hp := val_pos e hd1
    rw [hh, if_pos rfl, trm_dec e hn hd1]
    unfold wordP
    show Lib.itoa (val e) = _
    rw [Lib.itoa, if_neg (by omega)]
  · simp at he
    subst he
    refine ⟨?_, by simp⟩
    have hcd : digB (c.toNat : Int) = false := by
      rcases hs with ⟨hs, _⟩ | ⟨hs, _⟩
      · exact (sel_c hs).2.2.2
      · exact (old_c hs).2.2.2.1
    have hn : ds ≠ [] := by intro e0; subst e0; simp at h1
    have hp := val_pos ds hd1
    have h48 : ((c.toNat : Int) == 48) = false := by
      rw [beq_eq_false_iff_ne]; intro e0; rw [e0] at hcd; cases hcd
    unfold wordP
    simp only [hd, hcd, h48]
    simp only [Bool.false_eq_true, if_false]
    rw [Lib.itoa, if_neg (by omega), u8_toNat, List.drop_one, List.tail_cons, trm_dec ds hn hd1]
    simp

end Db
namespace Go.Proofs.YtdchbenfccofpaaGreatDoor
open Go.RowKit Db

set_option maxRecDepth 100000 in
set_option maxHeartbeats 1000000 in
theorem signText_any (s : UInt8) (w : World) :
    Calls Tryz.prog 190 #[.int .u8 (s.toNat : Int)] w fun e w' => ∃ u : ByteArray, e = .returned (.string u) ∧ L u = [s] ∧ Below w.heap.size w w' := by
  have hcv : (convert 187 9 (.slice (some ⟨w.heap.size, 0, none⟩) 1 1)).run Tryz.prog (w.alloc (.cells #[.int .u8 (s.toNat : Int)] 5)) = .ok (.string ⟨#[s]⟩) (w.alloc (.cells #[.int .u8 (s.toNat : Int)] 5)) := by
    have := run_convert_bytes_back (P := Tryz.prog) (w.alloc (.cells #[.int .u8 (s.toNat : Int)] 5)) 187 9 5 ⟨w.heap.size, 0, none⟩ 1 [s] Tryz.underlying187 Tryz.underlying5 Tryz.underlying9 (fun j hj => by
      have h0 : j = 0 := by simpa using hj
      subst h0
      exact cell_one_new w _ _ 0 _ rfl)
    exact this
  go_enter Tryz.func190, Tryz.ntmps190
  go_wp2_with fail
  go_ret
  exact ⟨⟨#[s]⟩, rfl, rfl, (Below.refl _ _).alloc (Nat.le_refl _) _⟩

set_option maxHeartbeats 1000000 in
theorem bracketed_any (x : ByteArray) (r : Nat) (k : Int) (w : World) (hx : x.size ≤ 1000000) :
    Calls Tryz.prog 191 #[.agg #[.string x, .int .i64 (r : Int)], .int .i64 k] w fun e w' => ∃ u : ByteArray, e = .returned (.string u) ∧ L u = brk (L x, r) k.toNat ∧ Below w.heap.size w w' := by
  by_cases h : (r : Int) < k
  · have Hb : Hid (brk (L x, r) k.toNat = 40 :: (L x ++ [41])) := by show _ = _; unfold brk; rw [if_pos (by simp; omega)]
    go_enter Tryz.func191, Tryz.ntmps191
    go_wp2_with fail
    go_ret
    refine ⟨_, rfl, ?_, (Below.refl _ _).alloc (Nat.le_refl _) _⟩
    rw [unhide Hb]; simp [L]
  · have Hb : Hid (brk (L x, r) k.toNat = L x) := by show _ = _; unfold brk; rw [if_neg (by simp; omega)]
    go_enter Tryz.func191, Tryz.ntmps191
    go_wp2_with fail
    go_ret
    exact ⟨x, rfl, (unhide Hb).symm, (Below.refl _ _).alloc (Nat.le_refl _) _⟩

end Go.Proofs.YtdchbenfccofpaaGreatDoor
