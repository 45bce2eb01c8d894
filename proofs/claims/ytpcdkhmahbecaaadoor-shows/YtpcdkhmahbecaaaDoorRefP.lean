/- Walks of the document's answer: Show. -/
import Derived.Test.YtpcdkhmahbecaaaDoorRefN
import Derived.Test.YtpcdkhmahbecaaaDoorRefO
import Derived.Test.YtpcdkhmahbecaaaDoorRefG
import Derived.Test.YtpcdkhmahbecaaaDoorShG
namespace Go.Proofs.YtpcdkhmahbecaaaDoor
open Go.RowKit Db

theorem per_step' {pd : List (List UInt8 × List UInt8)} {j : Nat} {p : List UInt8 × List UInt8} (hp : pd[j]? = some p) {u a b : List UInt8} (h : u = jn 44 ((pd.map perT).take j)) {n m : Nat} (h0 : val p.1 = n) (h1 : val p.2 = m) (ha : a = Lib.decDigits n) (hb : b = Lib.decDigits m) :
    (j = 0 → u ++ a ++ [45] ++ b = jn 44 ((pd.map perT).take (j + 1))) ∧ (0 < j → u ++ [44] ++ a ++ [45] ++ b = jn 44 ((pd.map perT).take (j + 1))) := by
  have h2 := per_step hp h (t := a ++ 45 :: b) (by omega) (by omega) (by rw [itoa_pos (by omega), itoa_pos (by omega), h0, h1, ha, hb]; rfl)
  refine ⟨fun hj => ?_, fun hj => ?_⟩
  · rw [← h2.1 hj]; simp
  · rw [← h2.2 hj]; simp

set_option maxRecDepth 100000 in
set_option maxHeartbeats 4000000 in
theorem refShow_ok (s : ByteArray) (w : World) (hs : s.size ≤ 200) (pd : List (List UInt8 × List UInt8)) (rows : List (List UInt8)) (pss : List (List Pt)) (hf : Db.Form (L s) pd rows pss) (pl : Int) (ho : outc (pdv pd) pss = (0, pl)) (hbd : ∀ ps ∈ pss, ps.length ≤ 200) :
    Calls Tryd.prog 6 #[.string s] w fun e w' => ∃ u : ByteArray, e = .returned (.tuple #[.string u, .int .i64 0]) ∧ L u = shT pd pss ∧ Below w.heap.size w w' := by
  have hsm := outc_small ho rfl
  have hpl : pd.length ≤ 4 := by have := hsm.1; simpa [pdv] using this
  have hvl := hsm.2.1
  have hlen := hf.len
  have hne : 0 < pss.length := by
    rw [← hlen]
    obtain ⟨x, y, _, _, hy⟩ := hf.sht.parts
    rw [← hy]
    exact List.length_pos_iff.2 (split_ne _ _)
  have Hf := hide hf
  have Ho := hide ho
  have Hbd := hide hbd
  clear hf ho hbd hsm
  go_enter Tryd.func6, Tryd.ntmps6
  go_wp2_with fail
  refine (refRead_ok s _ hs pd rows pss (unhide Hf)).mono ?_
  rintro e w1 ⟨a1, n1, k1, a2, n2, k2, a3, n3, k3, er', pl', rfl, ho', hb, hsh⟩
  have hh := (unhide Ho).symm.trans ho'
  simp only [Prod.mk.injEq] at hh
  obtain ⟨rfl, rfl⟩ := hh
  obtain ⟨ss, hss, hat⟩ := hsh rfl
  obtain ⟨_, _, e1⟩ := ownsRow_form hat.rf
  simp only [Value.slice.injEq] at e1
  obtain ⟨rfl, rfl, rfl⟩ := e1
  obtain ⟨_, _, e1⟩ := ownsRow_form hat.rt
  simp only [Value.slice.injEq] at e1
  obtain ⟨rfl, rfl, rfl⟩ := e1
  obtain ⟨_, _, e1⟩ := ownsRow_form hat.rr
  simp only [Value.slice.injEq] at e1
  obtain ⟨rfl, rfl, rfl⟩ := e1
  have hsl : ss.length = pss.length := by rw [← hlen, ← hss, List.length_map]
  have Hsl := hide hsl
  have hsl8 : 0 < ss.length ∧ ss.length ≤ 8 := by omega
  have Hss := hide hss
  have Hat := hide hat
  have Hb := hide hb
  have hsz := hb.size
  clear hss hat hsh hb ho' hsl hlen hne hvl
  go_wp2_with fail
  obtain ⟨W, hW⟩ : ∃ W, w1.alloc (.cells #[.slice a1 pd.length k1, .slice a2 pd.length k2, .slice a3 ss.length k3] 52) = W := ⟨_, rfl⟩
  rw [hW]
  have HB : Hid (Blk W w1.heap.size #[.slice a1 pd.length k1, .slice a2 pd.length k2, .slice a3 ss.length k3] 52) := by rw [← hW]; exact Blk.new _ _ _
  have Hw : Hid (Below w.heap.size w W) := by rw [← hW]; exact (unhide Hb).alloc hsz _
  have Hat1 : Hid (SheetAt W w.heap.size (.slice a1 pd.length k1) (.slice a2 pd.length k2) (.slice a3 ss.length k3) pd ss) := by rw [← hW]; exact (unhide Hat).alloc _
  have hWs : W.heap.size = w1.heap.size + 1 := by rw [← hW]; simp
  clear Hat hW Hb
  go_loopg [7, 8] pd.length (fun m vt i wr => ∃ j : Nat, ∃ u : ByteArray, j ≤ pd.length ∧ m = pd.length - j ∧ i = .int .i64 j ∧ vt = .string u ∧ u.size ≤ 50 * j ∧ Hid (L u = jn 44 ((pd.map perT).take j)) ∧ Hid (Below W.heap.size W wr))
  case atStart => exact ⟨0, ⟨#[]⟩, by omega, rfl, rfl, rfl, Nat.le_refl 0, rfl, Below.refl _ _⟩
  case round =>
    obtain ⟨j, u, hj, rfl, rfl, rfl, hus, Hu, Hb⟩ := hrel
    have hsz2 := (unhide Hb).size
    have HB2 := hide ((unhide HB).kept (unhide Hb))
    have c0 := (unhide HB2).cell 0
    have c1 := (unhide HB2).cell 1
    have c2 := (unhide HB2).cell 2
    simp only [List.getElem?_toArray, List.getElem?_cons_zero, List.getElem?_cons_succ] at c0 c1 c2
    by_cases hlt : j < pd.length
    · obtain ⟨pj, hpj⟩ : ∃ pj, pd[j]? = some pj := ⟨pd[j], List.getElem?_eq_getElem hlt⟩
      obtain ⟨g1, _, e1, hg1, hg1'⟩ := ownsRow_some (unhide Hat1).rf (by omega)
      simp only [Value.slice.injEq, true_and] at e1
      obtain ⟨rfl, rfl⟩ := e1
      obtain ⟨g2, _, e1, hg2, hg2'⟩ := ownsRow_some (unhide Hat1).rt (by omega)
      simp only [Value.slice.injEq, true_and] at e1
      obtain ⟨rfl, rfl⟩ := e1
      have hdj := (unhide Hf).sht.days _ (List.mem_of_getElem? hpj)
      have hr1 := day_range hdj.1
      have hr2 := day_range hdj.2
      obtain ⟨v1, hv1⟩ : ∃ v1 : Nat, val pj.1 = v1 := ⟨(val pj.1).toNat, by omega⟩
      obtain ⟨v2, hv2⟩ : ∃ v2 : Nat, val pj.2 = v2 := ⟨(val pj.2).toNat, by omega⟩
      have hl1 : v1 ≤ 999 := by omega
      have hl2 : v2 ≤ 999 := by omega
      have d1 := ownsRow_cell (ownsRow_below (unhide Hat1).rf (unhide Hb)) (j := j) (u := .int .i64 (v1 : Int)) (by rw [List.getElem?_map, hpj, ← hv1]; rfl)
      have Hd2 := hide (fun (wx : World) (h : Below W.heap.size W wx) => ownsRow_cell (ownsRow_below (unhide Hat1).rt h) (j := j) (u := .int .i64 (v2 : Int)) (by rw [List.getElem?_map, hpj, ← hv2]; rfl))
      have Hst := hide (fun (a b : List UInt8) => per_step' (a := a) (b := b) hpj (unhide Hu) hv1 hv2)
      clear hpj hdj hv1 hv2 hr1 hr2
      by_cases hj0 : j = 0
      · subst hj0
        go_wp2_with fail
        refine (number10_any v1 _ hl1).mono ?_
        rintro e w4 ⟨a, rfl, ha, hb4⟩
        have haz : a.size ≤ 3 := by rw [size_L, ha]; exact decDigits_small _ hl1
        have Hb4 : Hid (Below W.heap.size W w4) := (unhide Hb).then' (by omega) hb4
        have HB4 := hide ((unhide HB).kept (unhide Hb4))
        have c4 := (unhide HB4).cell 1
        simp only [List.getElem?_toArray, List.getElem?_cons_zero, List.getElem?_cons_succ] at c4
        have d2 := unhide Hd2 _ (unhide Hb4)
        have hsz4 := hb4.size
        have Ha := hide ha
        clear ha hb4
        go_wp2_with fail
        refine (number10_any v2 _ hl2).mono ?_
        rintro e w5 ⟨b, rfl, hb, hb5⟩
        have hbz : b.size ≤ 3 := by rw [size_L, hb]; exact decDigits_small _ hl2
        have Hb5 : Hid (Below W.heap.size W w5) := (unhide Hb4).then' (by omega) hb5
        have Hn := hide ((unhide Hst _ _ (unhide Ha) hb).1 (by simp))
        clear hb hb5
        go_wp2_with fail
        go_roundg (pd.length - (0 + 1))
        case measure => omega
        case rel => exact ⟨0 + 1, u ++ a ++ ⟨#[45]⟩ ++ b, by omega, rfl, by go_num, rfl, by rw [ByteArray.size_append, ByteArray.size_append, ByteArray.size_append]; show u.size + a.size + 1 + b.size ≤ _; omega, by show _ = _; rw [L_append, L_append, L_append]; exact unhide Hn, unhide Hb5⟩
      · have hdd : decide ((0 : Int) < (j : Int)) = true := by simp; omega
        go_wp2_with fail
        refine (number10_any v1 _ hl1).mono ?_
        rintro e w4 ⟨a, rfl, ha, hb4⟩
        have haz : a.size ≤ 3 := by rw [size_L, ha]; exact decDigits_small _ hl1
        have Hb4 : Hid (Below W.heap.size W w4) := (unhide Hb).then' (by omega) hb4
        have HB4 := hide ((unhide HB).kept (unhide Hb4))
        have c4 := (unhide HB4).cell 1
        simp only [List.getElem?_toArray, List.getElem?_cons_zero, List.getElem?_cons_succ] at c4
        have d2 := unhide Hd2 _ (unhide Hb4)
        have hsz4 := hb4.size
        have Ha := hide ha
        clear ha hb4
        go_wp2_with fail
        refine (number10_any v2 _ hl2).mono ?_
        rintro e w5 ⟨b, rfl, hb, hb5⟩
        have hbz : b.size ≤ 3 := by rw [size_L, hb]; exact decDigits_small _ hl2
        have Hb5 : Hid (Below W.heap.size W w5) := (unhide Hb4).then' (by omega) hb5
        have Hn := hide ((unhide Hst _ _ (unhide Ha) hb).2 (by omega))
        clear hb hb5
        go_wp2_with fail
        go_roundg (pd.length - (j + 1))
        case measure => omega
        case rel => exact ⟨j + 1, u ++ ⟨#[44]⟩ ++ a ++ ⟨#[45]⟩ ++ b, by omega, rfl, by go_num, rfl, by rw [ByteArray.size_append, ByteArray.size_append, ByteArray.size_append, ByteArray.size_append]; show u.size + 1 + a.size + 1 + b.size ≤ _; omega, by show _ = _; rw [L_append, L_append, L_append, L_append]; exact unhide Hn, unhide Hb5⟩
    · obtain rfl : j = pd.length := by omega
      have hus2 : u.size ≤ 200 := by omega
      have Hu0 : Hid (L u = jn 44 (pd.map perT)) := by
        show _ = _
        rw [unhide Hu, List.take_of_length_le (by simp)]
      obtain ⟨W2, hw2⟩ : ∃ W2, W2 = wr := ⟨_, rfl⟩
      subst hw2
      have Hat5 := hide ((unhide Hat1).kept (unhide Hb))
      clear Hu Hat1
      go_wp2_with fail
      go_loopg [7, 11] ss.length (fun m vt i wx => ∃ j : Nat, ∃ t : ByteArray, j ≤ ss.length ∧ m = ss.length - j ∧ i = .int .i64 j ∧ vt = .string t ∧ t.size ≤ 5100 * j + 300 ∧ Hid (L t = (if j = 0 then L u else (L u ++ [124]) ++ jn 59 ((pss.map rowT).take j))) ∧ Hid (Below W2.heap.size W2 wx))
      case atStart => exact ⟨0, u, by omega, rfl, rfl, rfl, by omega, rfl, Below.refl _ _⟩
      case round =>
        obtain ⟨j, t, hj, rfl, rfl, rfl, hts, Htx, Hb6⟩ := hrel
        have hsz6 := (unhide Hb6).size
        have HB6 := hide ((unhide HB2).kept (unhide Hb6))
        have c6 := (unhide HB6).cell 2
        simp only [List.getElem?_toArray, List.getElem?_cons_zero, List.getElem?_cons_succ] at c6
        by_cases hlt : j < ss.length
        · obtain ⟨vj, hvj⟩ : ∃ vj, ss[j]? = some vj := ⟨ss[j], List.getElem?_eq_getElem hlt⟩
          obtain ⟨pj, hpj⟩ : ∃ pj, pss[j]? = some pj := ⟨pss[j]'(by rw [← unhide Hsl]; exact hlt), List.getElem?_eq_getElem _⟩
          obtain ⟨g2, _, e1, hg2, hg2'⟩ := ownsRow_some (unhide Hat5).rr (by omega)
          simp only [Value.slice.injEq, true_and] at e1
          obtain ⟨rfl, rfl⟩ := e1
          have d1 := ownsRow_cell (ownsRow_below (unhide Hat5).rr (unhide Hb6)) (j := j) (u := .string vj) (by rw [List.getElem?_map, hvj]; rfl)
          have hrj := (unhide Hf).row j (L vj) pj (by rw [← unhide Hss, List.getElem?_map, hvj]; rfl) hpj
          obtain ⟨nf, hwf⟩ := hrj.wf
          have hvz : vj.size ≤ 200 := by rw [size_L]; exact hrj.len
          have Hwf := hide hwf
          have hbj := unhide Hbd pj (List.mem_of_getElem? hpj)
          have Hst := hide (fun (x : Pc) (hx : ShowR pj x) => row_step (a := L u ++ [124]) (u := (L u ++ [124]) ++ jn 59 ((pss.map rowT).take j)) hpj hx rfl)
          clear hrj hvj hpj hwf
          by_cases hj0 : j = 0
          · subst hj0
            go_wp2_with fail
            refine (show_any nf vj pj _ hvz (unhide Hwf) hbj).mono ?_
            rintro e w7 ⟨y, x, rfl, hx, hy, hb7⟩
            have hyz := show_size (unhide Hwf) hbj hx hy
            have Hb7 : Hid (Below W2.heap.size W2 w7) := (unhide Hb6).then' (by omega) hb7
            have Hn := hide ((unhide Hst x hx).1 (by simp))
            have Hy := hide hy
            clear hy hb7 hx
            go_wp2_with fail
            go_roundg (ss.length - (0 + 1))
            case measure => omega
            case rel =>
              refine ⟨0 + 1, t ++ ⟨#[124]⟩ ++ y, by omega, rfl, by go_num, rfl, by rw [ByteArray.size_append, ByteArray.size_append]; show t.size + 1 + y.size ≤ _; omega, ?_, unhide Hb7⟩
              show _ = _
              have h1 := unhide Htx
              rw [if_pos (by simp)] at h1
              rw [if_neg (by omega), L_append, L_append, unhide Hy, h1, ← unhide Hn]
              simp [jn, L]
          · have hdd : ((j : Int) == 0) = false := by simp; omega
            go_wp2_with fail
            refine (show_any nf vj pj _ hvz (unhide Hwf) hbj).mono ?_
            rintro e w7 ⟨y, x, rfl, hx, hy, hb7⟩
            have hyz := show_size (unhide Hwf) hbj hx hy
            have Hb7 : Hid (Below W2.heap.size W2 w7) := (unhide Hb6).then' (by omega) hb7
            have Hn := hide ((unhide Hst x hx).2 (by omega))
            have Hy := hide hy
            clear hy hb7 hx
            go_wp2_with fail
            go_roundg (ss.length - (j + 1))
            case measure => omega
            case rel =>
              refine ⟨j + 1, t ++ ⟨#[59]⟩ ++ y, by omega, rfl, by go_num, rfl, by rw [ByteArray.size_append, ByteArray.size_append]; show t.size + 1 + y.size ≤ _; omega, ?_, unhide Hb7⟩
              show _ = _
              have h1 := unhide Htx
              rw [if_neg (by omega)] at h1
              rw [if_neg (by omega), L_append, L_append, unhide Hy, h1, ← unhide Hn]
              simp [L]
        · obtain rfl : j = ss.length := by omega
          go_wp2_with fail
          go_ret2
          refine ⟨t, rfl, ?_, ?_⟩
          · have h1 := unhide Htx
            rw [if_neg (by omega)] at h1
            rw [h1, unhide Hu0, List.take_of_length_le (by rw [List.length_map, ← unhide Hsl]; exact Nat.le_refl _)]
            unfold shT
            simp
          · exact (unhide Hw).then' (by omega) ((unhide Hb).then' (by omega) (unhide Hb6))

end Go.Proofs.YtpcdkhmahbecaaaDoor
