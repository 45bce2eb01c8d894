/- Walks of Show: a whole report. -/
import Derived.Test.YtpcdkhmahbecaaaDoorShF
import Derived.Test.YtpcdkhmahbecaaaDoorShP
namespace Go.Proofs.YtpcdkhmahbecaaaDoor
open Go.RowKit Db

theorem itoa_pos {n : Int} (h : 0 ≤ n) : Lib.itoa n = Lib.decDigits n.toNat := by
  unfold Lib.itoa; rw [if_neg (by omega)]
/-- One period more. -/
theorem per_step {pd : List (List UInt8 × List UInt8)} {j : Nat} {p : List UInt8 × List UInt8} (hp : pd[j]? = some p) {u t : List UInt8} (h : u = jn 44 ((pd.map perT).take j)) (h0 : 0 ≤ val p.1) (h1 : 0 ≤ val p.2) (ht : t = Lib.itoa (val p.1) ++ 45 :: Lib.itoa (val p.2)) :
    (j = 0 → u ++ t = jn 44 ((pd.map perT).take (j + 1))) ∧ (0 < j → u ++ [44] ++ t = jn 44 ((pd.map perT).take (j + 1))) := by
  have hm : (pd.map perT)[j]? = some t := by
    rw [List.getElem?_map, hp, ht, itoa_pos h0, itoa_pos h1]; rfl
  constructor
  · rintro rfl
    rw [jn_one hm, h]; rfl
  · intro hj
    rw [jn_more hj hm, h]; simp
theorem row_step {pss : List (List Pt)} {j : Nat} {p : List Pt} (hp : pss[j]? = some p) {x : Pc} (hx : ShowR p x) {a u : List UInt8} (h : u = a ++ jn 59 ((pss.map rowT).take j)) :
    (j = 0 → u ++ x.1 = a ++ jn 59 ((pss.map rowT).take (j + 1))) ∧ (0 < j → u ++ [59] ++ x.1 = a ++ jn 59 ((pss.map rowT).take (j + 1))) := by
  have hm : (pss.map rowT)[j]? = some x.1 := by
    rw [List.getElem?_map, hp, ← rowT_of hx]; rfl
  constructor
  · rintro rfl
    rw [jn_one hm, h]; simp [jn]
  · intro hj
    rw [jn_more hj hm, h]; simp

set_option maxRecDepth 100000 in
set_option maxHeartbeats 4000000 in
theorem repShow_any (vp vr : Value) (pd : List (List UInt8 × List UInt8)) (vs : List Value) (pss : List (List Pt)) (B : Nat) (w : World) (hp : w.ownsRow B 70 2 vp pd.length (cellsD pd)) (hr : RowsAt w B vr vs pss)
    (hd : ∀ p ∈ pd, dayS p.1 ∧ dayS p.2) (hrow : ∀ (i : Nat) ps, pss[i]? = some ps → ∃ n e, Wf n e ps) (hpl : pd.length ≤ 4) (hvl : vs.length ≤ 8) (ht : Tab w) :
    Calls Tryd.prog 11 #[.agg #[vp, vr]] w fun e w' => ∃ u : ByteArray, e = .returned (.string u) ∧ L u = shT pd pss ∧ Below w.heap.size w w' := by
  obtain ⟨aop, capp, rfl⟩ := ownsRow_form hp
  obtain ⟨aor, capr, rfl⟩ := ownsRow_form hr.own
  have Hlen := hide hr.len
  have Hp := hide hp
  have Hr := hide hr
  have Hd := hide hd
  have Hrow := hide hrow
  have Ht := hide ht
  clear hp hr hd hrow ht
  go_enter Tryd.func11, Tryd.ntmps11
  go_wp2_with fail
  obtain ⟨W, hW⟩ : ∃ W, w.alloc (.cells #[.slice aop pd.length capp, .slice aor vs.length capr] 46) = W := ⟨_, rfl⟩
  rw [hW]
  have hWs : W.heap.size = w.heap.size + 1 := by rw [← hW]; simp
  have HB : Hid (Blk W w.heap.size #[.slice aop pd.length capp, .slice aor vs.length capr] 46) := by rw [← hW]; exact Blk.new _ _ _
  have Hw : Hid (Below w.heap.size w W) := by rw [← hW]; exact (Below.refl _ _).alloc (Nat.le_refl _) _
  have Hp1 := hide (ownsRow_below (unhide Hp) (unhide Hw))
  have Hr1 := hide ((unhide Hr).kept (unhide Hw))
  have Ht1 := hide ((unhide Ht).below (unhide Hw))
  clear Hp Hr Ht hW
  go_loopg [3, 11] pd.length (fun m vt i wr => ∃ j : Nat, ∃ u : ByteArray, j ≤ pd.length ∧ m = pd.length - j ∧ i = .int .i64 j ∧ vt = .string u ∧ u.size ≤ 50 * j ∧ Hid (L u = jn 44 ((pd.map perT).take j)) ∧ Hid (Below W.heap.size W wr))
  case atStart => exact ⟨0, ⟨#[]⟩, by omega, rfl, rfl, rfl, Nat.le_refl 0, rfl, Below.refl _ _⟩
  case round =>
    obtain ⟨j, u, hj, rfl, rfl, rfl, hus, Hu, Hb⟩ := hrel
    have hsz := (unhide Hb).size
    by_cases hlt : j < pd.length
    · obtain ⟨pj, hpj⟩ : ∃ pj, pd[j]? = some pj := ⟨pd[j], List.getElem?_eq_getElem hlt⟩
      obtain ⟨g2, _, e1, hg2, hg2'⟩ := ownsRow_some (unhide Hp1) (by omega)
      simp only [Value.slice.injEq, true_and] at e1
      obtain ⟨rfl, rfl⟩ := e1
      have hc := pair_get (fun p : List UInt8 × List UInt8 => Value.int .i64 (val p.1)) (fun p => Value.int .i64 (val p.2)) pd j pj hpj
      have hro := ownsRow_below (unhide Hp1) (unhide Hb)
      have d1 := ownsRow_cell hro (j := j * 2) hc.1
      have d2 := ownsRow_cell hro (j := j * 2 + 1) hc.2
      obtain ⟨p1, p2⟩ := pj
      have hdj := unhide Hd _ (List.mem_of_getElem? hpj)
      have hr1 := day_range hdj.1
      have hr2 := day_range hdj.2
      have Hst := hide (fun (t : List UInt8) => per_step (t := t) hpj (unhide Hu) hr1.1 hr2.1)
      simp only at d1 d2 hr1 hr2
      obtain ⟨v1, hv1⟩ : ∃ v1, val p1 = v1 := ⟨_, rfl⟩
      obtain ⟨v2, hv2⟩ : ∃ v2, val p2 = v2 := ⟨_, rfl⟩
      simp only [hv1] at d1 hr1
      simp only [hv2] at d2 hr2
      have Hst2 : Hid (∀ t : List UInt8, t = Lib.itoa v1 ++ 45 :: Lib.itoa v2 → (j = 0 → L u ++ t = jn 44 ((pd.map perT).take (j + 1))) ∧ (0 < j → L u ++ [44] ++ t = jn 44 ((pd.map perT).take (j + 1)))) := by
        intro t ht; exact unhide Hst t (by rw [hv1, hv2]; exact ht)
      clear hro hc hpj hdj hv1 hv2 Hst
      by_cases hj0 : j = 0
      · subst hj0
        go_wp2_with fail
        refine (showPeriod_any v1 v2 _ hr1.1 (by omega) hr2.1 (by omega) ((unhide Ht1).below (by exact (unhide Hb).alloc hsz _))).mono ?_
        rintro e w4 ⟨t, rfl, ht, hb4⟩
        have htz : t.size ≤ 45 := by
          rw [size_L, ht, List.length_append, List.length_cons]
          have a1 := Lib.itoa_length_le v1 (by omega) (by omega)
          have a2 := Lib.itoa_length_le v2 (by omega) (by omega)
          omega
        have Hb4 : Hid (Below W.heap.size W w4) := ((unhide Hb).alloc hsz _).then' (by simp; omega) hb4
        have Hn := hide ((unhide Hst2 _ ht).1 (by simp))
        clear ht hb4
        go_wp2_with fail
        go_roundg (pd.length - (0 + 1))
        case measure => omega
        case rel => exact ⟨0 + 1, u ++ t, by omega, rfl, by go_num, rfl, by rw [ByteArray.size_append]; omega, by show _ = _; rw [L_append]; exact unhide Hn, unhide Hb4⟩
      · have hdd : decide ((0 : Int) < (j : Int)) = true := by simp; omega
        go_wp2_with fail
        refine (showPeriod_any v1 v2 _ hr1.1 (by omega) hr2.1 (by omega) ((unhide Ht1).below (by exact (unhide Hb).alloc hsz _))).mono ?_
        rintro e w4 ⟨t, rfl, ht, hb4⟩
        have htz : t.size ≤ 45 := by
          rw [size_L, ht, List.length_append, List.length_cons]
          have a1 := Lib.itoa_length_le v1 (by omega) (by omega)
          have a2 := Lib.itoa_length_le v2 (by omega) (by omega)
          omega
        have Hb4 : Hid (Below W.heap.size W w4) := ((unhide Hb).alloc hsz _).then' (by simp; omega) hb4
        have Hn := hide ((unhide Hst2 _ ht).2 (by omega))
        clear ht hb4
        go_wp2_with fail
        go_roundg (pd.length - (j + 1))
        case measure => omega
        case rel => exact ⟨j + 1, u ++ ⟨#[44]⟩ ++ t, by omega, rfl, by go_num, rfl, by rw [ByteArray.size_append, ByteArray.size_append]; show u.size + 1 + t.size ≤ _; omega, by show _ = _; rw [L_append, L_append]; exact unhide Hn, unhide Hb4⟩
    · obtain rfl : j = pd.length := by omega
      have HB5 := hide ((unhide HB).kept (unhide Hb))
      have c1 := (unhide HB5).cell 1
      simp only [List.getElem?_toArray, List.getElem?_cons_zero, List.getElem?_cons_succ] at c1
      have hus2 : u.size ≤ 200 := by omega
      have Hu0 : Hid (L u = jn 44 (pd.map perT)) := by
        show _ = _
        rw [unhide Hu, List.take_of_length_le (by simp)]
      obtain ⟨W2, hw2⟩ : ∃ W2, W2 = wr := ⟨_, rfl⟩
      subst hw2
      have Hr5 := hide ((unhide Hr1).kept (unhide Hb))
      have Ht5 := hide ((unhide Ht1).below (unhide Hb))
      clear Hu HB HB5 Hr1 Ht1 Hp1
      go_wp2_with fail
      go_loopg [3, 30] vs.length (fun m vt i wx => ∃ j : Nat, ∃ t : ByteArray, j ≤ vs.length ∧ m = vs.length - j ∧ i = .int .i64 j ∧ vt = .string t ∧ t.size ≤ 5100 * j + 300 ∧ Hid (L t = (L u ++ [124]) ++ jn 59 ((pss.map rowT).take j)) ∧ Hid (Below W2.heap.size W2 wx))
      case atStart => exact ⟨0, u ++ ⟨#[124]⟩, by omega, rfl, rfl, rfl, by rw [ByteArray.size_append]; show u.size + 1 ≤ _; omega, by show _ = _; rw [L_append]; simp [jn, L], Below.refl _ _⟩
      case round =>
        obtain ⟨j, t, hj, rfl, rfl, rfl, hts, Htx, Hb6⟩ := hrel
        have hsz6 := (unhide Hb6).size
        by_cases hlt : j < vs.length
        · obtain ⟨vj, hvj⟩ : ∃ vj, vs[j]? = some vj := ⟨vs[j], List.getElem?_eq_getElem hlt⟩
          obtain ⟨pj, hpj⟩ : ∃ pj, pss[j]? = some pj := ⟨pss[j]'(by rw [← unhide Hlen]; exact hlt), List.getElem?_eq_getElem _⟩
          have hrj := (unhide Hr5).row j vj pj hvj hpj
          obtain ⟨aoj, capj, rfl⟩ := ownsRow_form hrj
          obtain ⟨g2, _, e1, hg2, hg2'⟩ := ownsRow_some (unhide Hr5).own (by omega)
          simp only [Value.slice.injEq, true_and] at e1
          obtain ⟨rfl, rfl⟩ := e1
          have d1 := ownsRow_cell (ownsRow_below (unhide Hr5).own (unhide Hb6)) (j := j) hvj
          obtain ⟨nf, ef, hwf⟩ := unhide Hrow j pj hpj
          have Hdp : Hid (dpt pj 0 = some 1) := by
            have := wf_dpt hwf [] 0
            rw [List.append_nil] at this
            exact this
          obtain ⟨x, hx⟩ := wf_show hwf
          have Hx := hide hx
          have Hnum := hide (wf_num hwf)
          have Hbd := hide ((unhide Hr5).bd pj (List.mem_of_getElem? hpj))
          have Hrj := hide (ownsRow_below hrj (unhide Hb6))
          have Hst := hide (row_step hpj hx (unhide Htx))
          clear hrj hvj hpj hwf hx
          by_cases hj0 : j = 0
          · subst hj0
            go_wp2_with fail
            refine (showRow_any _ pj 0 _ (by exact (ownsRow_base (unhide Hrj) (fun _ _ => Nat.zero_le _)).alloc _) (unhide Hnum) (unhide Hdp) x (unhide Hx) (unhide Hbd) ((unhide Ht5).below (by exact (unhide Hb6).alloc hsz6 _))).mono ?_
            rintro e w7 ⟨y, rfl, hy, hyz, hb7⟩
            have Hb7 : Hid (Below W2.heap.size W2 w7) := ((unhide Hb6).alloc hsz6 _).then' (by simp; omega) hb7
            have Hn := hide ((unhide Hst).1 (by simp))
            have Hy := hide hy
            clear hy hb7
            go_wp2_with fail
            go_roundg (vs.length - (0 + 1))
            case measure => omega
            case rel => exact ⟨0 + 1, t ++ y, by omega, rfl, by go_num, rfl, by rw [ByteArray.size_append]; omega, by show _ = _; rw [L_append, unhide Hy]; exact unhide Hn, unhide Hb7⟩
          · have hdd : decide ((0 : Int) < (j : Int)) = true := by simp; omega
            go_wp2_with fail
            refine (showRow_any _ pj 0 _ (by exact (ownsRow_base (unhide Hrj) (fun _ _ => Nat.zero_le _)).alloc _) (unhide Hnum) (unhide Hdp) x (unhide Hx) (unhide Hbd) ((unhide Ht5).below (by exact (unhide Hb6).alloc hsz6 _))).mono ?_
            rintro e w7 ⟨y, rfl, hy, hyz, hb7⟩
            have Hb7 : Hid (Below W2.heap.size W2 w7) := ((unhide Hb6).alloc hsz6 _).then' (by simp; omega) hb7
            have Hn := hide ((unhide Hst).2 (by omega))
            have Hy := hide hy
            clear hy hb7
            go_wp2_with fail
            go_roundg (vs.length - (j + 1))
            case measure => omega
            case rel => exact ⟨j + 1, t ++ ⟨#[59]⟩ ++ y, by omega, rfl, by go_num, rfl, by rw [ByteArray.size_append, ByteArray.size_append]; show t.size + 1 + y.size ≤ _; omega, by show _ = _; rw [L_append, L_append, unhide Hy]; exact unhide Hn, unhide Hb7⟩
        · obtain rfl : j = vs.length := by omega
          go_wp2_with fail
          go_ret
          refine ⟨t, rfl, ?_, ?_⟩
          · rw [unhide Htx, unhide Hu0, List.take_of_length_le (by rw [List.length_map, ← unhide Hlen]; exact Nat.le_refl _)]
            unfold shT
            simp
          · exact (unhide Hw).then' (by omega) ((unhide Hb).then' (by omega) (unhide Hb6))

end Go.Proofs.YtpcdkhmahbecaaaDoor
