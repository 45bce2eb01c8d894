/- Proved: for every text the law daybooklaw.Shows returns true: what daybook.Show answers (the plain form and the error) is what the document's own answer gives. No condition: every string. (The card: the three tables of the standard library that strconv.Itoa reads are tied to the program's text.) -/
import Derived.Test.YtdchbenfccofpaaDoorS04
import Derived.Test.YtdchbenfccofpaaDoorS03
import Derived.Test.YtdchbenfccofpaaDoorS10
import Derived.Test.YtdchbenfccofpaaDoorS12
import Derived.Test.YtdchbenfccofpaaDoorS13
import Derived.Test.YtdchbenfccofpaaDoorS02
import Derived.Test.YtdchbenfccofpaaDoorRows
import Derived.Test.YtdchbenfccofpaaDoorTie
import Derived.Test.YtdchbenfccofpaaDoorCards
import Derived.ProofKit
import Derived.OpenShut
import Derived.ShutString
import Derived.LaidMore
import Derived.Stop.Joined
import Derived.SevenTiedAt
import Derived.Lib.LaidTab
namespace Go.Proofs.YtdchbenfccofpaaDoor
open Go.RowKit Db

theorem op_cases {o : Int} (h : opB o = true) : o = ((43 : UInt8).toNat : Int) ∨ o = ((45 : UInt8).toNat : Int) ∨ o = ((42 : UInt8).toNat : Int) ∨ o = ((47 : UInt8).toNat : Int) := by
  unfold opB at h
  simp only [Bool.or_eq_true, beq_iff_eq] at h
  simp
  omega

theorem show_any (n : Nat) : ShowC n := by
  induction n with
  | zero => intro s ps w hs hw; exact absurd hw (by simp [Wf])
  | succ n ih =>
    intro s ps w hs hw hl
    rcases hw with ⟨hc, hop⟩ | ⟨hc, hw⟩ | ⟨hc, p, hw, rfl⟩ | ⟨hc, p, q, hp, hq, rfl⟩
    · exact show_leaf s ps w hs hc hop
    · exact show_par n ih s ps w hs hc hw hl
    · exact show_neg n ih s p w hs hc hw (by simp at hl; omega)
    · simp only [List.length_append, List.length_cons, List.length_nil] at hl
      rcases op_cases hc with h | h | h | h
      · rw [h]; exact show_sum n ih s 43 p q w hs (.inl rfl) h hp hq (by omega) (by omega)
      · rw [h]; exact show_sum n ih s 45 p q w hs (.inr rfl) h hp hq (by omega) (by omega)
      · rw [h]; exact show_prod n ih s 42 p q w hs (.inl rfl) h hp hq (by omega) (by omega)
      · rw [h]; exact show_prod n ih s 47 p q w hs (.inr rfl) h hp hq (by omega) (by omega)

end Go.Proofs.YtdchbenfccofpaaDoor
namespace Go.Proofs.YtdchbenfccofpaaDoor
open Go.RowKit Db

end Go.Proofs.YtdchbenfccofpaaDoor
namespace Go.Proofs.YtdchbenfccofpaaDoor
open Go.RowKit Db

theorem per_step' {pd : List (List UInt8 × List UInt8)} {j : Nat} {p : List UInt8 × List UInt8} (hp : pd[j]? = some p) {u a b : List UInt8} (h : u = jn 44 ((pd.map perT).take j)) {n m : Nat} (h0 : val p.1 = n) (h1 : val p.2 = m) (ha : a = Lib.decDigits n) (hb : b = Lib.decDigits m) :
    (j = 0 → u ++ a ++ [45] ++ b = jn 44 ((pd.map perT).take (j + 1))) ∧ (0 < j → u ++ [44] ++ a ++ [45] ++ b = jn 44 ((pd.map perT).take (j + 1))) := by
  have h2 := per_step hp h (t := a ++ 45 :: b) (by omega) (by omega) (by rw [itoa_pos (by omega), itoa_pos (by omega), h0, h1, ha, hb]; rfl)
  refine ⟨fun hj => ?_, fun hj => ?_⟩
  · rw [← h2.1 hj]; simp
  · rw [← h2.2 hj]; simp

set_option maxRecDepth 100000 in
set_option maxHeartbeats 4000000 in
theorem refShow_ok (s : ByteArray) (w : World) (hs : s.size ≤ 200) (pd : List (List UInt8 × List UInt8)) (rows : List (List UInt8)) (pss : List (List Pt)) (hf : Db.Form (L s) pd rows pss) (pl : Int) (ho : outc (pdv pd) pss = (0, pl)) (hbd : ∀ ps ∈ pss, ps.length ≤ 200) :
    Calls Tryd.prog 6 #[.string s] w fun e w' => ∃ u : ByteArray, e = .returned (.tuple #[.string u, .int .i64 0]) ∧ L u = shT pd pss ∧ Below w.heap.size w w' := by
  have hsm := outc_small ho rfl
  have hpl : pd.length ≤ 4 := by have := hsm.1; simpa [pdv] using this
  have hvl := hsm.2.1
  have hlen := hf.len
  have hne : 0 < pss.length := by
    rw [← hlen]
    obtain ⟨x, y, _, _, hy⟩ := hf.sht.parts
    rw [← hy]
    exact List.length_pos_iff.2 (split_ne _ _)
  have Hf := hide hf
  have Ho := hide ho
  have Hbd := hide hbd
  clear hf ho hbd hsm
  go_enter Tryd.func6, Tryd.ntmps6
  go_wp2_with fail
  refine (refRead_ok s _ hs pd rows pss (unhide Hf)).mono ?_
  rintro e w1 ⟨a1, n1, k1, a2, n2, k2, a3, n3, k3, er', pl', rfl, ho', hb, hsh⟩
  have hh := (unhide Ho).symm.trans ho'
  simp only [Prod.mk.injEq] at hh
  obtain ⟨rfl, rfl⟩ := hh
  obtain ⟨ss, hss, hat⟩ := hsh rfl
  obtain ⟨_, _, e1⟩ := ownsRow_form hat.rf
  simp only [Value.slice.injEq] at e1
  obtain ⟨rfl, rfl, rfl⟩ := e1
  obtain ⟨_, _, e1⟩ := ownsRow_form hat.rt
  simp only [Value.slice.injEq] at e1
  obtain ⟨rfl, rfl, rfl⟩ := e1
  obtain ⟨_, _, e1⟩ := ownsRow_form hat.rr
  simp only [Value.slice.injEq] at e1
  obtain ⟨rfl, rfl, rfl⟩ := e1
  have hsl : ss.length = pss.length := by rw [← hlen, ← hss, List.length_map]
  have Hsl := hide hsl
  have hsl8 : 0 < ss.length ∧ ss.length ≤ 8 := by omega
  have Hss := hide hss
  have Hat := hide hat
  have Hb := hide hb
  have hsz := hb.size
  clear hss hat hsh hb ho' hsl hlen hne hvl
  go_wp2_with fail
  obtain ⟨W, hW⟩ : ∃ W, w1.alloc (.cells #[.slice a1 pd.length k1, .slice a2 pd.length k2, .slice a3 ss.length k3] 52) = W := ⟨_, rfl⟩
  rw [hW]
  have HB : Hid (Blk W w1.heap.size #[.slice a1 pd.length k1, .slice a2 pd.length k2, .slice a3 ss.length k3] 52) := by rw [← hW]; exact Blk.new _ _ _
  have Hw : Hid (Below w.heap.size w W) := by rw [← hW]; exact (unhide Hb).alloc hsz _
  have Hat1 : Hid (SheetAt W w.heap.size (.slice a1 pd.length k1) (.slice a2 pd.length k2) (.slice a3 ss.length k3) pd ss) := by rw [← hW]; exact (unhide Hat).alloc _
  have hWs : W.heap.size = w1.heap.size + 1 := by rw [← hW]; simp
  clear Hat hW Hb
  go_loopg [7, 8] pd.length (fun m vt i wr => ∃ j : Nat, ∃ u : ByteArray, j ≤ pd.length ∧ m = pd.length - j ∧ i = .int .i64 j ∧ vt = .string u ∧ u.size ≤ 50 * j ∧ Hid (L u = jn 44 ((pd.map perT).take j)) ∧ Hid (Below W.heap.size W wr))
  case atStart => exact ⟨0, ⟨#[]⟩, by omega, rfl, rfl, rfl, Nat.le_refl 0, rfl, Below.refl _ _⟩
  case round =>
    obtain ⟨j, u, hj, rfl, rfl, rfl, hus, Hu, Hb⟩ := hrel
    have hsz2 := (unhide Hb).size
    have HB2 := hide ((unhide HB).kept (unhide Hb))
    have c0 := (unhide HB2).cell 0
    have c1 := (unhide HB2).cell 1
    have c2 := (unhide HB2).cell 2
    simp only [List.getElem?_toArray, List.getElem?_cons_zero, List.getElem?_cons_succ] at c0 c1 c2
    by_cases hlt : j < pd.length
    · obtain ⟨pj, hpj⟩ : ∃ pj, pd[j]? = some pj := ⟨pd[j], List.getElem?_eq_getElem hlt⟩
      obtain ⟨g1, _, e1, hg1, hg1'⟩ := ownsRow_some (unhide Hat1).rf (by omega)
      simp only [Value.slice.injEq, true_and] at e1
      obtain ⟨rfl, rfl⟩ := e1
      obtain ⟨g2, _, e1, hg2, hg2'⟩ := ownsRow_some (unhide Hat1).rt (by omega)
      simp only [Value.slice.injEq, true_and] at e1
      obtain ⟨rfl, rfl⟩ := e1
      have hdj := (unhide Hf).sht.days _ (List.mem_of_getElem? hpj)
      have hr1 := day_range hdj.1
      have hr2 := day_range hdj.2
      obtain ⟨v1, hv1⟩ : ∃ v1 : Nat, val pj.1 = v1 := ⟨(val pj.1).toNat, by omega⟩
      obtain ⟨v2, hv2⟩ : ∃ v2 : Nat, val pj.2 = v2 := ⟨(val pj.2).toNat, by omega⟩
      have hl1 : v1 ≤ 999 := by omega
      have hl2 : v2 ≤ 999 := by omega
      have d1 := ownsRow_cell (ownsRow_below (unhide Hat1).rf (unhide Hb)) (j := j) (u := .int .i64 (v1 : Int)) (by rw [List.getElem?_map, hpj, ← hv1]; rfl)
      have Hd2 := hide (fun (wx : World) (h : Below W.heap.size W wx) => ownsRow_cell (ownsRow_below (unhide Hat1).rt h) (j := j) (u := .int .i64 (v2 : Int)) (by rw [List.getElem?_map, hpj, ← hv2]; rfl))
      have Hst := hide (fun (a b : List UInt8) => per_step' (a := a) (b := b) hpj (unhide Hu) hv1 hv2)
      clear hpj hdj hv1 hv2 hr1 hr2
      by_cases hj0 : j = 0
      · subst hj0
        go_wp2_with fail
        refine (number10_any v1 _ (by omega) (by omega)).mono ?_
        rintro e w4 ⟨a, rfl, ha, hb4⟩
        rw [itoa_pos (by omega), Int.toNat_natCast] at ha
        have haz : a.size ≤ 3 := by rw [size_L, ha]; exact decDigits_small _ hl1
        have Hb4 : Hid (Below W.heap.size W w4) := (unhide Hb).then' (by omega) hb4
        have HB4 := hide ((unhide HB).kept (unhide Hb4))
        have c4 := (unhide HB4).cell 1
        simp only [List.getElem?_toArray, List.getElem?_cons_zero, List.getElem?_cons_succ] at c4
        have d2 := unhide Hd2 _ (unhide Hb4)
        have hsz4 := hb4.size
        have Ha := hide ha
        clear ha hb4
        go_wp2_with fail
        refine (number10_any v2 _ (by omega) (by omega)).mono ?_
        rintro e w5 ⟨b, rfl, hb, hb5⟩
        rw [itoa_pos (by omega), Int.toNat_natCast] at hb
        have hbz : b.size ≤ 3 := by rw [size_L, hb]; exact decDigits_small _ hl2
        have Hb5 : Hid (Below W.heap.size W w5) := (unhide Hb4).then' (by omega) hb5
        have Hn := hide ((unhide Hst _ _ (unhide Ha) hb).1 (by simp))
        clear hb hb5
        go_wp2_with fail
        go_roundg (pd.length - (0 + 1))
        case measure => omega
        case rel => exact ⟨0 + 1, u ++ a ++ ⟨#[45]⟩ ++ b, by omega, rfl, by go_num, rfl, by rw [ByteArray.size_append, ByteArray.size_append, ByteArray.size_append]; show u.size + a.size + 1 + b.size ≤ _; omega, by show _ = _; rw [L_append, L_append, L_append]; exact unhide Hn, unhide Hb5⟩
      · have hdd : decide ((0 : Int) < (j : Int)) = true := by simp; omega
        go_wp2_with fail
        refine (number10_any v1 _ (by omega) (by omega)).mono ?_
        rintro e w4 ⟨a, rfl, ha, hb4⟩
        rw [itoa_pos (by omega), Int.toNat_natCast] at ha
        have haz : a.size ≤ 3 := by rw [size_L, ha]; exact decDigits_small _ hl1
        have Hb4 : Hid (Below W.heap.size W w4) := (unhide Hb).then' (by omega) hb4
        have HB4 := hide ((unhide HB).kept (unhide Hb4))
        have c4 := (unhide HB4).cell 1
        simp only [List.getElem?_toArray, List.getElem?_cons_zero, List.getElem?_cons_succ] at c4
        have d2 := unhide Hd2 _ (unhide Hb4)
        have hsz4 := hb4.size
        have Ha := hide ha
        clear ha hb4
        go_wp2_with fail
        refine (number10_any v2 _ (by omega) (by omega)).mono ?_
        rintro e w5 ⟨b, rfl, hb, hb5⟩
        rw [itoa_pos (by omega), Int.toNat_natCast] at hb
        have hbz : b.size ≤ 3 := by rw [size_L, hb]; exact decDigits_small _ hl2
        have Hb5 : Hid (Below W.heap.size W w5) := (unhide Hb4).then' (by omega) hb5
        have Hn := hide ((unhide Hst _ _ (unhide Ha) hb).2 (by omega))
        clear hb hb5
        go_wp2_with fail
        go_roundg (pd.length - (j + 1))
        case measure => omega
        case rel => exact ⟨j + 1, u ++ ⟨#[44]⟩ ++ a ++ ⟨#[45]⟩ ++ b, by omega, rfl, by go_num, rfl, by rw [ByteArray.size_append, ByteArray.size_append, ByteArray.size_append, ByteArray.size_append]; show u.size + 1 + a.size + 1 + b.size ≤ _; omega, by show _ = _; rw [L_append, L_append, L_append, L_append]; exact unhide Hn, unhide Hb5⟩
    · obtain rfl : j = pd.length := by omega
      have hus2 : u.size ≤ 200 := by omega
      have Hu0 : Hid (L u = jn 44 (pd.map perT)) := by
        show _ = _
        rw [unhide Hu, List.take_of_length_le (by simp)]
      obtain ⟨W2, hw2⟩ : ∃ W2, W2 = wr := ⟨_, rfl⟩
      subst hw2
      have Hat5 := hide ((unhide Hat1).kept (unhide Hb))
      clear Hu Hat1
      go_wp2_with fail
      go_loopg [7, 11] ss.length (fun m vt i wx => ∃ j : Nat, ∃ t : ByteArray, j ≤ ss.length ∧ m = ss.length - j ∧ i = .int .i64 j ∧ vt = .string t ∧ t.size ≤ 5100 * j + 300 ∧ Hid (L t = (if j = 0 then L u else (L u ++ [124]) ++ jn 59 ((pss.map rowT).take j))) ∧ Hid (Below W2.heap.size W2 wx))
      case atStart => exact ⟨0, u, by omega, rfl, rfl, rfl, by omega, rfl, Below.refl _ _⟩
      case round =>
        obtain ⟨j, t, hj, rfl, rfl, rfl, hts, Htx, Hb6⟩ := hrel
        have hsz6 := (unhide Hb6).size
        have HB6 := hide ((unhide HB2).kept (unhide Hb6))
        have c6 := (unhide HB6).cell 2
        simp only [List.getElem?_toArray, List.getElem?_cons_zero, List.getElem?_cons_succ] at c6
        by_cases hlt : j < ss.length
        · obtain ⟨vj, hvj⟩ : ∃ vj, ss[j]? = some vj := ⟨ss[j], List.getElem?_eq_getElem hlt⟩
          obtain ⟨pj, hpj⟩ : ∃ pj, pss[j]? = some pj := ⟨pss[j]'(by rw [← unhide Hsl]; exact hlt), List.getElem?_eq_getElem _⟩
          obtain ⟨g2, _, e1, hg2, hg2'⟩ := ownsRow_some (unhide Hat5).rr (by omega)
          simp only [Value.slice.injEq, true_and] at e1
          obtain ⟨rfl, rfl⟩ := e1
          have d1 := ownsRow_cell (ownsRow_below (unhide Hat5).rr (unhide Hb6)) (j := j) (u := .string vj) (by rw [List.getElem?_map, hvj]; rfl)
          have hrj := (unhide Hf).row j (L vj) pj (by rw [← unhide Hss, List.getElem?_map, hvj]; rfl) hpj
          obtain ⟨nf, hwf⟩ := hrj.wf
          have hvz : vj.size ≤ 200 := by rw [size_L]; exact hrj.len
          have Hwf := hide hwf
          have hbj := unhide Hbd pj (List.mem_of_getElem? hpj)
          have Hst := hide (fun (x : Pc) (hx : ShowR pj x) => row_step (a := L u ++ [124]) (u := (L u ++ [124]) ++ jn 59 ((pss.map rowT).take j)) hpj hx rfl)
          clear hrj hvj hpj hwf
          by_cases hj0 : j = 0
          · subst hj0
            go_wp2_with fail
            refine (show_any nf vj pj _ hvz (unhide Hwf) hbj).mono ?_
            rintro e w7 ⟨y, x, rfl, hx, hy, hb7⟩
            have hyz := show_size (unhide Hwf) hbj hx hy
            have Hb7 : Hid (Below W2.heap.size W2 w7) := (unhide Hb6).then' (by omega) hb7
            have Hn := hide ((unhide Hst x hx).1 (by simp))
            have Hy := hide hy
            clear hy hb7 hx
            go_wp2_with fail
            go_roundg (ss.length - (0 + 1))
            case measure => omega
            case rel =>
              refine ⟨0 + 1, t ++ ⟨#[124]⟩ ++ y, by omega, rfl, by go_num, rfl, by rw [ByteArray.size_append, ByteArray.size_append]; show t.size + 1 + y.size ≤ _; omega, ?_, unhide Hb7⟩
              show _ = _
              have h1 := unhide Htx
              rw [if_pos (by simp)] at h1
              rw [if_neg (by omega), L_append, L_append, unhide Hy, h1, ← unhide Hn]
              simp [jn, L]
          · have hdd : ((j : Int) == 0) = false := by simp; omega
            go_wp2_with fail
            refine (show_any nf vj pj _ hvz (unhide Hwf) hbj).mono ?_
            rintro e w7 ⟨y, x, rfl, hx, hy, hb7⟩
            have hyz := show_size (unhide Hwf) hbj hx hy
            have Hb7 : Hid (Below W2.heap.size W2 w7) := (unhide Hb6).then' (by omega) hb7
            have Hn := hide ((unhide Hst x hx).2 (by omega))
            have Hy := hide hy
            clear hy hb7 hx
            go_wp2_with fail
            go_roundg (ss.length - (j + 1))
            case measure => omega
            case rel =>
              refine ⟨j + 1, t ++ ⟨#[59]⟩ ++ y, by omega, rfl, by go_num, rfl, by rw [ByteArray.size_append, ByteArray.size_append]; show t.size + 1 + y.size ≤ _; omega, ?_, unhide Hb7⟩
              show _ = _
              have h1 := unhide Htx
              rw [if_neg (by omega)] at h1
              rw [if_neg (by omega), L_append, L_append, unhide Hy, h1, ← unhide Hn]
              simp [L]
        · obtain rfl : j = ss.length := by omega
          go_wp2_with fail
          go_ret2
          refine ⟨t, rfl, ?_, ?_⟩
          · have h1 := unhide Htx
            rw [if_neg (by omega)] at h1
            rw [h1, unhide Hu0, List.take_of_length_le (by rw [List.length_map, ← unhide Hsl]; exact Nat.le_refl _)]
            unfold shT
            simp
          · exact (unhide Hw).then' (by omega) ((unhide Hb).then' (by omega) (unhide Hb6))

end Go.Proofs.YtdchbenfccofpaaDoor
namespace Go.Proofs.YtdchbenfccofpaaDoor.shows
open Go.ChangeShapes Go.WideShapes Go.ChangeAt Go.RowKit Go.WideMaps Go.WideElems
open Go.ChangeMaps (open_string shut_string)
set_option linter.unusedVariables false

theorem own : ownKnob Tryd.prog.godebug = none := by kernel_rfl
abbrev laidL : List (String × DataW Unit) := [("math/bits.deBruijn32tab", Rows.laid_math_bits_deBruijn32tab), ("math/bits.deBruijn64tab", Rows.laid_math_bits_deBruijn64tab), ("internal/strconv.uint64pow10", Rows.laid_internal_strconv_uint64pow10)]
theorem gP : Tryd.prog.globalNamed "internal/strconv.uint64pow10" = some 0 := by kernel_rfl
theorem gT : (Tryd.prog.globals[0]?).map (·.type) = some 180 := by kernel_rfl
theorem c20 : Tryd.prog.cellsOf 180 = 20 := by kernel_rfl
theorem c1 : Tryd.prog.cellsOf 88 = 1 := by kernel_rfl
theorem tab_of {W : World} (h : laidMetH Tryd.prog laidL W) : Tab W := by
  rw [MakeChecks.laidMetH_plain _ _ _ (by kernel_rfl)] at h
  obtain ⟨ps, ⟨g0, t0, cs0, f0, p0, q0, hg0, ht0, hv0, hd0, ⟨g1, t1, cs1, f1, p1, q1, hg1, ht1, hv1, hd1, ⟨g2, t2, cs2, f2, p2, q2, hg2, ht2, hv2, hd2, _, _⟩, _⟩, _⟩, _, _⟩ := h
  obtain rfl := Option.some.inj (gP.symm.trans hg2)
  obtain rfl := Option.some.inj (gT.symm.trans ht2)
  have h1 := Lib.cells_of_tab (zs := Lib.pow10Tab) Tryd.underlying180 Tryd.underlying88 c1 c20 hd2
  unfold Tab Lib.TabIs
  rw [hv2, ← h1]

theorem door_met (os : Os) (args : Array Value) : laidMetH Tryd.prog laidL ((World.doorLaid Tryd.prog 4000 os).forCall (fun _ _ => 0) ⟨#[], args, []⟩).memory :=
  laidMetH_of_parts3 (fuel := 8) (laidMet_of_run' 8 (by kernel_rfl) (by kernel_rfl)) (by kernel_rfl) (by kernel_rfl)

/-- The walk of the law. -/
def Walk : Prop := ∀ (a0 : ByteArray) (_ : a0.size ≤ maxLen) (w : World) (_ : Tab w), Calls Tryd.prog 3 #[.string a0] w fun e w' => e = .returned (.bool true) ∧ Below w.heap.size w w'

set_option maxRecDepth 100000 in
theorem lifted (walk : Walk) (os : Os) (started : os.Started) (H : Type) (enc : TypeId × Value → H) :
    ReturnsInHanded {} Tryd.checked os 3 .any (fun w args => (Rows.showsSpec.pre enc Tryd.prog Tryd.f3 [] false w args ∧ laidMetH Tryd.prog laidL w) ∧ sizedMet enc Tryd.prog Tryd.f3 (OpenSpec.ofChange Rows.showsSpec) false w args)
      (Rows.showsSpec.post enc Tryd.prog Tryd.f3 false true false false) := by
  refine returnsInHanded_of_change_and (C := Tryd.checked) (X := fun w _ => laidMetH Tryd.prog laidL w) (fun _ _ _ hh h => h.of_heap hh) own started (by kernel_rfl) Tryd.func3
    (ChangeSpec.witness_shaped (enc := enc) (C := Tryd.checked) (os := os) (X := fun w _ => laidMetH Tryd.prog laidL w) false (World.doorLaid Tryd.prog 4000 os) #[.string ByteArray.empty] 8 rfl (World.shaped_of_RefB (by kernel_rfl) (by kernel_rfl)) (by kernel_rfl) (by kernel_rfl) (by kernel_rfl) (door_met os _)) ?_
  intro W base args ds gs before hval0 hW _ _ hL _
  have hval : ∀ (j : Nat) t v, Tryd.f3.params[j]? = some t → args[j]? = some v → Value.okWide Tryd.prog W .any base t v := hval0
  have hW' := hW
  obtain ⟨p, q, hA0, hV, rfl, hfz, hnd⟩ := hW
  have hA : DataW.TrodAll enc Tryd.prog W 0 (fun _ => true) true Tryd.f3.params.toList args.toList ds p := hA0
  rw [Tryd.params3] at hA hval
  obtain ⟨v0, vs0, d0, ds0, p0, q0, hargs, rfl, rfl, h0, r0⟩ := trodAll_cons hA
  obtain ⟨rfl, rfl, rfl⟩ := trodAll_nil r0
  obtain rfl : args = #[v0] := by cases args; simp_all
  obtain ⟨rfl, rfl⟩ := trodVars_none hV
  obtain ⟨a0, rfl, rfl, rfl, w0⟩ := open_string Tryd.underlying9 (hval 0 9 v0 rfl rfl) h0
  clear hA0 hval0
  simp only [List.append_nil] at hW'
  refine (walk a0 w0 W (tab_of hL)).mono fun e W' ⟨he, hg⟩ => ?_
  subst he
  exact ⟨_, rfl, _, _, _, [], [], [], hW', trodAll_cons_mk (shut_bool Tryd.underlying4 _) trodAll_mk0, trodAll_cons_mk (shut_string Tryd.underlying9 w0) trodAll_mk0, rfl, hg.frame _, fun h => by cases h⟩

theorem row (walk : Walk) : Rows.ShowsSaid :=
  OpenClaim.holds_of_wide 3 Tryd.f3 rfl rfl rfl rfl rfl rfl rfl ⟨rfl, rfl, rfl, rfl, rfl⟩ rfl rfl rfl rfl rfl (by kernel_rfl) Tryd.func3 (by kernel_rfl)
    (of_decide_eq_true (by kernel_rfl)) (by unfold Func.isWrapper; first | (rw [if_pos (by decide +kernel)]; kernel_rfl) | (rw [if_neg (by decide +kernel)]; exact ⟨rfl, rfl⟩))
    (fun os started H enc _ => lifted walk os started H enc)

theorem card (walk : Walk) : Rows.ShowsCardSaid :=
  Claim7.holds_tied_plain_at .later [] [.data, .data, .data] true Rows.showsCard.stood.harness false
    (row walk) (fun _ h => by cases h) (by kernel_rfl) (fun _ h => by cases h) shows_row_tie rfl ⟨rfl, rfl⟩ (by kernel_rfl) rfl
    (fun f fn hf hfn => by
      obtain rfl : f = 3 := Option.some.inj ((show Tryd.prog.funcNamed "daybook/daybooklaw.Shows" = some 3 by kernel_rfl).symm.trans hf) |>.symm
      obtain rfl : fn = Tryd.f3 := (Option.some.inj (Tryd.func3.symm.trans hfn)).symm
      exact ⟨by kernel_rfl, fun j t ht => by
        rw [Tryd.params3] at ht
        have hm : t ∈ [9] := by simpa using Array.mem_of_getElem? ht
        have hall : ([9].all fun u => !Tryd.prog.wantsStandIn u) = true := by kernel_rfl
        exact (show Tryd.prog.wantsStandIn t = false by simpa using List.all_eq_true.1 hall t hm)⟩)
    (by kernel_rfl)
end Go.Proofs.YtdchbenfccofpaaDoor.shows
namespace Go.Proofs.YtdchbenfccofpaaDoor
open Go.RowKit Db

set_option maxRecDepth 100000 in
set_option maxHeartbeats 1000000 in
theorem refShow_any (s u : ByteArray) (w : World) (hm : s.size ≤ maxLen) (er : Int) (hc : ShowIs s u er) :
    Calls Tryd.prog 6 #[.string s] w fun e w' => e = .returned (.tuple #[.string u, .int .i64 er]) ∧ Below w.heap.size w w' := by
  rcases hc with ⟨hs, rfl, rfl⟩ | ⟨hs, rfl, hp, rfl⟩ | ⟨hs, pd, rows, pss, pl, hf, ho, ⟨h0, rfl⟩ | ⟨rfl, hu, hbd⟩⟩
  · go_enter Tryd.func6, Tryd.ntmps6
    go_wp2_with fail
    refine (refRead_long s _ hs hm).mono ?_
    rintro e w1 ⟨rfl, hb⟩
    have Hb := hide hb
    have hsz := hb.size
    clear hb
    go_wp2_with fail
    go_ret2
    exact ⟨rfl, (unhide Hb).alloc hsz _⟩
  · obtain ⟨p, hpp⟩ : ∃ p, plc 0 0 0 0 (L s) = p := ⟨_, rfl⟩
    have Hp := hide hp
    have Hpp := hide hpp
    clear hp hpp
    go_enter Tryd.func6, Tryd.ntmps6
    go_wp2_with fail
    refine (refRead_form s _ hs (unhide Hp)).mono ?_
    rintro e w1 ⟨rfl, hb⟩
    rw [unhide Hpp]
    have Hb := hide hb
    have hsz := hb.size
    clear hb
    go_wp2_with fail
    go_ret2
    exact ⟨rfl, (unhide Hb).alloc hsz _⟩
  · have Hf := hide hf
    have Ho := hide ho
    have hne : (er == 0) = false := by simpa using h0
    clear hf ho
    go_enter Tryd.func6, Tryd.ntmps6
    go_wp2_with fail
    refine (refRead_ok s _ hs pd rows pss (unhide Hf)).mono ?_
    rintro e w1 ⟨a1, n1, k1, a2, n2, k2, a3, n3, k3, er', pl', rfl, ho', hb, _⟩
    have hh := (unhide Ho).symm.trans ho'
    simp only [Prod.mk.injEq] at hh
    obtain ⟨rfl, rfl⟩ := hh
    have Hb := hide hb
    have hsz := hb.size
    clear hb ho'
    go_wp2_with fail
    go_ret2
    exact ⟨rfl, (unhide Hb).alloc hsz _⟩
  · refine (refShow_ok s w hs pd rows pss hf pl ho hbd).mono ?_
    rintro e w1 ⟨u', rfl, hu', hb⟩
    obtain rfl : u' = u := L_inj (hu'.trans hu.symm)
    exact ⟨rfl, hb⟩

/-- The law's walk. -/
theorem shows_walk : shows.Walk := by
  intro a0 w0 w ht
  have Ht := hide ht
  clear ht
  go_enter Tryd.func3, Tryd.ntmps3
  go_wp2_with fail
  refine (dayShow_any a0 _ w0 (unhide Ht)).mono ?_
  rintro e w1 ⟨u, er, rfl, hc, hb1⟩
  have Hc := hide hc
  have Hb1 := hide hb1
  clear hc hb1
  go_wp2_with fail
  refine (refShow_any a0 u _ w0 er (unhide Hc)).mono ?_
  rintro e w2 ⟨rfl, hb2⟩
  have Hb2 := hide ((unhide Hb1).then hb2)
  have e1 : (er == er) = true := by simp
  clear hb2
  go_wp2_with fail
  go_ret
  exact ⟨rfl, unhide Hb2⟩

theorem shows_holds : Rows.ShowsCardSaid := shows.card shows_walk
#print axioms shows_holds
end Go.Proofs.YtdchbenfccofpaaDoor
