/- Walks of the document's answer: Read. Reports: the document's grid: the cell of an operand, of an expression. Reports: the document's grid: the cell of an operand. Reports: the document's grid: the cell of an expression. Reports: the document's grid: all cells of a sheet. -/
import Derived.Test.YtdchbenfccofpaaGreatDoorJ11
import Derived.Test.YtdchbenfccofpaaGreatDoorJ15
import Derived.Test.YtdchbenfccofpaaGreatDoorJ02
import Derived.Test.YtdchbenfccofpaaGreatDoorJ10
import Derived.Test.YtdchbenfccofpaaGreatDoorJ09
import Derived.Deep.RegionHeld3
namespace Go.Proofs.YtdchbenfccofpaaGreatDoor
open Go.RowKit Db

theorem refRead_long (s : ByteArray) (w : World) (hs : 200 < s.size) (hm : s.size ≤ maxLen) :
    Calls Tryz.prog 76 #[.string s] w fun e w' => e = .returned (.tuple #[.agg #[.slice none 0 0, .slice none 0 0, .slice none 0 0], .int .i64 1, .int .i64 0]) ∧ Below w.heap.size w w' := by
  unfold maxLen at hm
  go_enter Tryz.func76, Tryz.ntmps76
  go_wp2_with fail
  refine bodyPost_ret (v := .tuple #[.agg #[.slice none 0 0, .slice none 0 0, .slice none 0 0], .int .i64 1, .int .i64 0]) (by simp [results, Tryz.results76, go_sem]) rfl ⟨rfl, ?_⟩
  exact (Below.refl _ _).alloc (Nat.le_refl _) _

set_option maxRecDepth 100000 in
set_option maxHeartbeats 1000000 in
theorem refRead_form (s : ByteArray) (w : World) (hs : s.size ≤ 200) (hp : 0 ≤ plc 0 0 0 0 (L s)) :
    Calls Tryz.prog 76 #[.string s] w fun e w' => e = .returned (.tuple #[.agg #[.slice none 0 0, .slice none 0 0, .slice none 0 0], .int .i64 2, .int .i64 (plc 0 0 0 0 (L s))]) ∧ Below w.heap.size w w' := by
  obtain ⟨p, hpp⟩ : ∃ p, plc 0 0 0 0 (L s) = p := ⟨_, rfl⟩
  rw [hpp] at hp ⊢
  have Hpp := hide hpp
  clear hpp
  go_enter Tryz.func76, Tryz.ntmps76
  go_wp2_with fail
  refine (place_any s _ hs).mono ?_
  rintro e w1 ⟨rfl, hb⟩
  rw [unhide Hpp]
  have HB0 : Hid (Blk w1 w.heap.size #[.slice none 0 0, .slice none 0 0, .slice none 0 0] 129) := (Blk.new _ _ _).kept hb
  have f0 := (unhide HB0).cell 0
  have f1 := (unhide HB0).cell 1
  have f2 := (unhide HB0).cell 2
  have z0 := (unhide HB0).frozen 0
  have z1 := (unhide HB0).frozen 1
  have z2 := (unhide HB0).frozen 2
  simp only [List.getElem?_toArray, List.getElem?_cons_zero, List.getElem?_cons_succ] at f0 f1 f2
  have Hb := hide hb
  clear hb
  go_wp2_with fail
  refine bodyPost_ret (v := .tuple #[.agg #[.slice none 0 0, .slice none 0 0, .slice none 0 0], .int .i64 2, .int .i64 p]) (by simp [results, Tryz.results76, go_sem, f0, f1, f2]) rfl ⟨rfl, ?_⟩
  exact (((((Below.refl _ _).alloc (Nat.le_refl _) _).then' (by simp) (unhide Hb)).setCell (by simp) _).setCell (by simp) _).setCell (by simp) _

/-- The sheet, as it is read: the values and where they lie. -/
structure SheetAt (w : World) (B : Nat) (vf vt vr : Value) (pd : List (List UInt8 × List UInt8)) (ss : List ByteArray) : Prop where
  rf : w.ownsRow B 3 1 vf pd.length (pd.map (fun p => .int .i64 (val p.1)))
  rt : w.ownsRow B 3 1 vt pd.length (pd.map (fun p => .int .i64 (val p.2)))
  rr : w.ownsRow B 9 1 vr ss.length (ss.map Value.string)

theorem SheetAt.drewN {w : World} {B : Nat} {vf vt vr : Value} {pd : List (List UInt8 × List UInt8)} {ss : List ByteArray} (h : SheetAt w B vf vt vr pd ss) (n : Nat) : SheetAt (w.drewN n) B vf vt vr pd ss := ⟨h.rf, h.rt, h.rr⟩
theorem SheetAt.kept {w w' : World} {B : Nat} {vf vt vr : Value} {pd : List (List UInt8 × List UInt8)} {ss : List ByteArray} (h : SheetAt w B vf vt vr pd ss) (hb : Below w.heap.size w w') : SheetAt w' B vf vt vr pd ss := ⟨ownsRow_below h.rf hb, ownsRow_below h.rt hb, ownsRow_below h.rr hb⟩
theorem SheetAt.alloc {w : World} {B : Nat} {vf vt vr : Value} {pd : List (List UInt8 × List UInt8)} {ss : List ByteArray} (h : SheetAt w B vf vt vr pd ss) (o : Obj) : SheetAt (w.alloc o) B vf vt vr pd ss := ⟨h.rf.alloc o, h.rt.alloc o, h.rr.alloc o⟩

/-- What Read answers to a report by its form. -/
def ReadR (w : World) (pd : List (List UInt8 × List UInt8)) (rows : List (List UInt8)) (pss : List (List Pt)) (e : Ending) (w' : World) : Prop :=
  ∃ a1 n1 c1 a2 n2 c2 a3 n3 c3 er pl, e = .returned (.tuple #[.agg #[.slice a1 n1 c1, .slice a2 n2 c2, .slice a3 n3 c3], .int .i64 er, .int .i64 pl]) ∧ outc (pdv pd) pss = (er, pl) ∧ Below w.heap.size w w' ∧
    (er = 0 → ∃ ss : List ByteArray, ss.map L = rows ∧ SheetAt w' w.heap.size (.slice a1 n1 c1) (.slice a2 n2 c2) (.slice a3 n3 c3) pd ss)

set_option maxRecDepth 100000 in
set_option maxHeartbeats 4000000 in
theorem refRead_ok (s : ByteArray) (w : World) (hs : s.size ≤ 200) (pd : List (List UInt8 × List UInt8)) (rows : List (List UInt8)) (pss : List (List Pt)) (hf : Db.Form (L s) pd rows pss) :
    Calls Tryz.prog 76 #[.string s] w fun e w' => ReadR w pd rows pss e w' := by
  obtain ⟨hplc, hsht, hlen, hrow⟩ := hf
  obtain ⟨ii, hi, hz0, hz1, hz2⟩ := info_parts info_int
  have Hplc := hide hplc
  have Hsht := hide hsht
  have Hlen := hide hlen
  have Hrow := hide hrow
  clear hplc hsht hlen hrow
  go_enter Tryz.func76, Tryz.ntmps76
  go_wp2_with fail
  refine (place_any s _ hs).mono ?_
  rintro e w1 ⟨rfl, hb1⟩
  rw [unhide Hplc]
  have HB1 : Hid (Blk w1 w.heap.size #[.slice none 0 0, .slice none 0 0, .slice none 0 0] 129) := (Blk.new _ _ _).kept hb1
  have Hb1 := hide hb1
  have hsz1 := hb1.size
  simp at hsz1
  clear hb1
  go_wp2_with fail
  refine (read_any s _ hs pd rows (unhide Hsht)).mono ?_
  rintro e w2 ⟨vf, vt, vr, ss, rfl, hss, hrf, hrt, hrr, hb2⟩
  have hsl : ss.length = rows.length := by have := congrArg List.length hss; simpa using this
  obtain ⟨aof, capf, rfl⟩ := ownsRow_form hrf
  obtain ⟨aot, capt, rfl⟩ := ownsRow_form hrt
  obtain ⟨aor, capr, rfl⟩ := ownsRow_form hrr
  have HS : Hid (SheetAt w2 w1.heap.size _ _ _ pd ss) := ⟨hrf, hrt, hrr⟩
  have HB2 := hide ((unhide HB1).kept hb2)
  have Hb2 := hide hb2
  have hsz2 := hb2.size
  have Hss := hide hss
  have hpdl : pd.length ≤ maxLen := by
    rcases hrf.2 with ⟨_, h0⟩ | ⟨g, cap, cur, h1, h2, h3, h4, h5, _⟩
    · simp [h0]
    · omega
  have hrl : ss.length ≤ maxLen := by
    rcases hrr.2 with ⟨_, h0⟩ | ⟨g, cap, cur, h1, h2, h3, h4, h5, _⟩
    · simp [h0]
    · omega
  unfold maxLen at hpdl hrl
  clear hss hrf hrt hrr hb2 HB1
  have g0 := (unhide HB2).cell 0
  have g1 := (unhide HB2).cell 1
  have g2 := (unhide HB2).cell 2
  have z0 := (unhide HB2).frozen 0
  have z1 := (unhide HB2).frozen 1
  have z2 := (unhide HB2).frozen 2
  simp only [List.getElem?_toArray, List.getElem?_cons_zero, List.getElem?_cons_succ] at g0 g1 g2
  have hlt2 := (unhide HB2).lt
  have Hsl := hide hsl
  clear hsl
  have d200 : decide ((200 : Int) < (s.size : Int)) = false := by simp; omega
  have Hb : Hid (Below w.heap.size w w2) := (((Below.refl _ _).alloc (Nat.le_refl _) _).then' (by simp) (unhide Hb1)).then' (by omega) (unhide Hb2)
  have Hpl : Hid (pss.length = ss.length) := by show _ = _; rw [unhide Hsl, unhide Hlen]
  by_cases h4 : 4 < pd.length
  · have Ho : Hid (outc (pdv pd) pss = (3, 0)) := by show _ = _; unfold outc; rw [if_pos (.inl (by simpa [pdv] using h4))]
    have d4 : decide ((4 : Int) < (pd.length : Int)) = true := by simp; omega
    go_wp2_with fail
    refine bodyPost_ret (v := .tuple #[.agg #[.slice none 0 0, .slice none 0 0, .slice none 0 0], .int .i64 3, .int .i64 0]) (by simp [results, Tryz.results76, go_sem, g0, g1, g2, hlt2]) rfl ⟨_, _, _, _, _, _, _, _, _, 3, 0, rfl, unhide Ho, ?_, fun h => by omega⟩
    (repeat (first | refine Below.setCell ?_ (by simp) _ | refine Below.alloc ?_ (by first | omega | (simp [World.setCell]; omega)) _ | exact unhide Hb | refine Below.drewN ?_ _))
  have d4 : decide ((4 : Int) < (pd.length : Int)) = false := by simp; omega
  by_cases h8 : 8 < ss.length
  · have Ho : Hid (outc (pdv pd) pss = (3, 0)) := by show _ = _; unfold outc; rw [if_pos (.inr (by rw [unhide Hpl]; exact h8))]
    have d8 : decide ((8 : Int) < (ss.length : Int)) = true := by simp; omega
    go_wp2_with fail
    refine bodyPost_ret (v := .tuple #[.agg #[.slice none 0 0, .slice none 0 0, .slice none 0 0], .int .i64 3, .int .i64 0]) (by simp [results, Tryz.results76, go_sem, g0, g1, g2, hlt2]) rfl ⟨_, _, _, _, _, _, _, _, _, 3, 0, rfl, unhide Ho, ?_, fun h => by omega⟩
    (repeat (first | refine Below.setCell ?_ (by simp) _ | refine Below.alloc ?_ (by first | omega | (simp [World.setCell]; omega)) _ | exact unhide Hb | refine Below.drewN ?_ _))
  have d8 : decide ((8 : Int) < (ss.length : Int)) = false := by simp; omega
  have Hsm : Hid (¬ (4 < (pdv pd).length ∨ 8 < pss.length)) := by show ¬ _; rw [unhide Hpl]; simp [pdv]; omega
  go_wp2_with fail
  go_loopw [7] (fun i wr => ∃ k n : Nat, k ≤ pd.length ∧ i = .int .i64 k ∧ wr = (w2.alloc (.cells #[.slice aof pd.length capf, .slice aot pd.length capt, .slice aor ss.length capr] 129)).drewN n ∧
      Hid (badP k ((pdv pd).drop k) = badP 0 (pdv pd))) (fun i _ => pd.length - (intOf i).toNat)
  case atStart => exact ⟨0, 0, by omega, rfl, rfl, rfl⟩
  case round =>
    obtain ⟨k, n, hk, rfl, rfl, Hbp⟩ := hrel
    by_cases hlt : k < pd.length
    · obtain ⟨pk, hpk⟩ : ∃ pk, pd[k]? = some pk := ⟨pd[k], List.getElem?_eq_getElem hlt⟩
      have hpv : (pdv pd)[k]? = some (val pk.1, val pk.2) := by simp [pdv, hpk]
      have Hst := hide (badP_step hpv)
      obtain ⟨gf, _, e1, hgf, hgf'⟩ := ownsRow_some (unhide HS).rf (by omega)
      obtain ⟨gt, _, e2, hgt, hgt'⟩ := ownsRow_some (unhide HS).rt (by omega)
      simp only [Value.slice.injEq, true_and] at e1 e2
      obtain ⟨rfl, rfl⟩ := e1
      obtain ⟨rfl, rfl⟩ := e2
      have c1 := ownsRow_cell (unhide HS).rf (j := k) (u := .int .i64 (val pk.1)) (by simp [hpk])
      have c2 := ownsRow_cell (unhide HS).rt (j := k) (u := .int .i64 (val pk.2)) (by simp [hpk])
      obtain ⟨x1, hx1⟩ : ∃ x1, val pk.1 = x1 := ⟨_, rfl⟩
      obtain ⟨x2, hx2⟩ : ∃ x2, val pk.2 = x2 := ⟨_, rfl⟩
      rw [hx1] at c1
      rw [hx2] at c2
      have Hst' : Hid (badP k ((pdv pd).drop k) = if x2 < x1 then (k : Int) else badP ((k + 1 : Nat) : Int) ((pdv pd).drop (k + 1))) := by show _ = _; rw [unhide Hst, hx1, hx2]
      clear hpv hpk hx1 hx2 Hst
      by_cases hbad : x2 < x1
      · have Ho : Hid (outc (pdv pd) pss = (4, (k : Int))) := by
          show _ = _
          have : badP 0 (pdv pd) = k := by rw [← unhide Hbp, unhide Hst', if_pos hbad]
          unfold outc; rw [if_neg (unhide Hsm), this, if_pos (by omega)]
        go_wp2_with fail
        go_quiet (fail)
        go_wp2_with fail
        refine bodyPost_ret (v := .tuple #[.agg #[.slice none 0 0, .slice none 0 0, .slice none 0 0], .int .i64 4, .int .i64 k]) (by simp [results, Tryz.results76, go_sem, g0, g1, g2, hlt2]) rfl ⟨_, _, _, _, _, _, _, _, _, 4, k, rfl, unhide Ho, ?_, fun h => by omega⟩
        (repeat (first | refine Below.setCell ?_ (by simp) _ | refine Below.alloc ?_ (by first | omega | (simp [World.setCell]; omega)) _ | exact unhide Hb | refine Below.drewN ?_ _))
      · have Hst2 : Hid (badP k ((pdv pd).drop k) = badP ((k + 1 : Nat) : Int) ((pdv pd).drop (k + 1))) := by show _ = _; rw [unhide Hst', if_neg hbad]
        go_wp2_with fail
        go_quiet (fail)
        go_wp2_with fail
        go_roundw
        case rel => exact ⟨k + 1, _, by omega, by go_num, rfl, by show _ = _; rw [← unhide Hbp, unhide Hst2]⟩
        case measure => simp [intOf]; omega
    · obtain rfl : k = pd.length := by omega
      have Hp0 : Hid (badP 0 (pdv pd) < 0) := by
        show _ < _
        rw [← unhide Hbp, List.drop_eq_nil_of_le (by simp [pdv])]
        exact (by decide : (-1 : Int) < 0)
      clear Hbp hk hlt
      go_wp2_with fail
      go_loopw [8] (fun i wr => ∃ k m : Nat, k ≤ ss.length ∧ i = .int .i64 k ∧ wr = (w2.alloc (.cells #[.slice aof pd.length capf, .slice aot pd.length capt, .slice aor ss.length capr] 129)).drewN m ∧
          Hid (badN k (pss.drop k) = badN 0 pss)) (fun i _ => ss.length - (intOf i).toNat)
      case atStart => exact ⟨0, _, by omega, rfl, rfl, rfl⟩
      case round =>
        obtain ⟨k, m, hk, rfl, rfl, Hbn⟩ := hrel
        by_cases hlt : k < ss.length
        · obtain ⟨sk, hsk⟩ : ∃ sk, ss[k]? = some sk := ⟨ss[k], List.getElem?_eq_getElem hlt⟩
          obtain ⟨pk, hpk⟩ : ∃ pk, pss[k]? = some pk := ⟨pss[k]'(by rw [unhide Hpl]; exact hlt), List.getElem?_eq_getElem _⟩
          have hro := unhide Hrow k (L sk) pk (by rw [← unhide Hss]; simp [hsk]) hpk
          have hskz : sk.size ≤ 200 := by rw [← L_length]; exact hro.len
          have Hst := hide (badN_step hpk)
          obtain ⟨gr, _, e1, hgr, hgr'⟩ := ownsRow_some (unhide HS).rr (by omega)
          simp only [Value.slice.injEq, true_and] at e1
          obtain ⟨rfl, rfl⟩ := e1
          have c1 := ownsRow_cell (unhide HS).rr (j := k) (u := .string sk) (by simp [hsk])
          have Hro := hide hro
          clear hsk hpk hro
          go_wp2_with fail
          refine (reaches_any sk k _ hskz (unhide Hro).old).mono ?_
          rintro e w' ⟨rfl, rfl⟩
          rw [(unhide Hro).rch]
          cases hnb : nameB k pk with
          | true =>
            have Ho : Hid (outc (pdv pd) pss = (5, (k : Int))) := by
              show _ = _
              have : badN 0 pss = k := by rw [← unhide Hbn, unhide Hst, hnb]; rfl
              unfold outc; rw [if_neg (unhide Hsm), if_neg (by have := unhide Hp0; omega), this, if_pos (by omega)]
            clear hnb
            go_wp2_with fail
            refine bodyPost_ret (v := .tuple #[.agg #[.slice none 0 0, .slice none 0 0, .slice none 0 0], .int .i64 5, .int .i64 k]) (by simp [results, Tryz.results76, go_sem, g0, g1, g2, hlt2]) rfl ⟨_, _, _, _, _, _, _, _, _, 5, k, rfl, unhide Ho, ?_, fun h => by omega⟩
            (repeat (first | refine Below.setCell ?_ (by simp) _ | refine Below.alloc ?_ (by first | omega | (simp [World.setCell]; omega)) _ | exact unhide Hb | refine Below.drewN ?_ _))
          | false =>
            have Hst2 : Hid (badN k (pss.drop k) = badN ((k + 1 : Nat) : Int) (pss.drop (k + 1))) := by show _ = _; rw [unhide Hst, hnb]; rfl
            clear hnb
            go_wp2_with fail
            go_roundw
            case rel => exact ⟨k + 1, _, by omega, by go_num, rfl, by show _ = _; rw [← unhide Hbn, unhide Hst2]⟩
            case measure => simp [intOf]; omega
        · obtain rfl : k = ss.length := by omega
          have Hn0 : Hid (badN 0 pss < 0) := by
            show _ < _
            rw [← unhide Hbn, List.drop_eq_nil_of_le (by rw [unhide Hpl]; exact Nat.le_refl _)]
            exact (by decide : (-1 : Int) < 0)
          clear Hbn hk hlt
          go_wp2_with fail
          go_loopw [10, 11] (fun vk i wr => ∃ k : Nat, ∃ kinds : List Int, k ≤ ss.length ∧ i = .int .i64 k ∧ Hid (kinds.length = k) ∧ Hid (∀ x ∈ kinds, 0 ≤ x ∧ x ≤ 2) ∧ Hid (badK k kinds (pss.drop k) = badK 0 [] pss) ∧
              Hid (wr.ownsRow (w2.heap.size + 1) 3 1 vk k (kinds.map (.int .i64))) ∧ Hid (Below (w2.heap.size + 1) (w2.alloc (.cells #[.slice aof pd.length capf, .slice aot pd.length capt, .slice aor ss.length capr] 129)) wr)) (fun _ i _ => ss.length - (intOf i).toNat)
          case atStart => exact ⟨0, [], by omega, rfl, rfl, by simp [Hid], rfl, World.ownsRow_nil _ _ _ _, by exact (Below.refl _ _).drewN _⟩
          case round =>
            obtain ⟨k, kinds, hk, rfl, Hkl, Hkb, Hbk, Hkr, Hbel⟩ := hrel
            obtain ⟨aok, capk, hvk⟩ := ownsRow_form (unhide Hkr)
            subst hvk
            have HBs : Hid (Blk wr w2.heap.size #[.slice aof pd.length capf, .slice aot pd.length capt, .slice aor ss.length capr] 129) := (Blk.new _ _ _).below (unhide Hbel) (by omega)
            have HB0 : Hid (Blk wr w.heap.size #[.slice none 0 0, .slice none 0 0, .slice none 0 0] 129) := ((unhide HB2).alloc _).below (unhide Hbel) (by omega)
            have HSr : Hid (SheetAt wr w1.heap.size (.slice aof pd.length capf) (.slice aot pd.length capt) (.slice aor ss.length capr) pd ss) := ((unhide HS).alloc _).kept (by have := unhide Hbel; simpa using this)
            have s0 := (unhide HBs).cell 0
            have s1 := (unhide HBs).cell 1
            have s2 := (unhide HBs).cell 2
            have y0 := (unhide HB0).cell 0
            have y1 := (unhide HB0).cell 1
            have y2 := (unhide HB0).cell 2
            have u0 := (unhide HB0).frozen 0
            have u1 := (unhide HB0).frozen 1
            have u2 := (unhide HB0).frozen 2
            have hlw := (unhide HB0).lt
            simp only [List.getElem?_toArray, List.getElem?_cons_zero, List.getElem?_cons_succ] at s0 s1 s2 y0 y1 y2
            have hszr := (unhide Hbel).size
            simp at hszr
            have Hbw : Hid (Below w.heap.size w wr) := ((unhide Hb).alloc (by omega) _).trans ((unhide Hbel).mono (by omega))
            by_cases hlt : k < ss.length
            · obtain ⟨sk, hsk⟩ : ∃ sk, ss[k]? = some sk := ⟨ss[k], List.getElem?_eq_getElem hlt⟩
              obtain ⟨pk, hpk⟩ : ∃ pk, pss[k]? = some pk := ⟨pss[k]'(by rw [unhide Hpl]; exact hlt), List.getElem?_eq_getElem _⟩
              have hro := unhide Hrow k (L sk) pk (by rw [← unhide Hss]; simp [hsk]) hpk
              have hskz : sk.size ≤ 200 := by rw [← L_length]; exact hro.len
              have Hst := hide (badK_step kinds hpk)
              have hnm := badN_all pss 0 (by omega) (unhide Hn0) k pk hpk
              rw [Int.zero_add] at hnm
              have Hlt := hide (nameB_lt hnm hro.pos kinds.length (by rw [unhide Hkl]))
              obtain ⟨nf, hwf⟩ := hro.wf
              have Hwf := hide hwf
              obtain ⟨gr, _, e1, hgr, hgr'⟩ := ownsRow_some (unhide HSr).rr (by omega)
              simp only [Value.slice.injEq, true_and] at e1
              obtain ⟨rfl, rfl⟩ := e1
              have c1 := ownsRow_cell (unhide HSr).rr (j := k) (u := .string sk) (by simp [hsk])
              have Hkr' : Hid (wr.ownsRow (w2.heap.size + 1) 3 1 (.slice aok k capk) kinds.length (kinds.map (.int .i64))) := by show World.ownsRow _ _ _ _ _ _ _; rw [unhide Hkl]; exact unhide Hkr
              clear hsk hpk hro hnm hwf
              go_wp2_with fail
              refine (kind_any nf sk pk kinds _ (w2.heap.size + 1) _ hskz (unhide Hwf) (unhide Hlt) (unhide Hkb) (by exact unhide Hkr')).mono ?_
              rintro e w' ⟨kk, rfl, hkk, mm, rfl⟩
              have Hkk := hide (kindP_of hkk.2.2)
              have hkk0 := hkk.1
              have hkk2 := hkk.2.1
              clear hkk
              by_cases hz : (kk == 0) = true
              · have Ho : Hid (outc (pdv pd) pss = (6, (k : Int))) := by
                  show _ = _
                  have : badK 0 [] pss = k := by rw [← unhide Hbk, unhide Hst, unhide Hkk, hz]; rfl
                  unfold outc; rw [if_neg (unhide Hsm), if_neg (by have := unhide Hp0; omega), if_neg (by have := unhide Hn0; omega), this, if_pos (by omega)]
                go_wp2_with fail
                refine bodyPost_ret (v := .tuple #[.agg #[.slice none 0 0, .slice none 0 0, .slice none 0 0], .int .i64 6, .int .i64 k]) (by simp [results, Tryz.results76, go_sem, y0, y1, y2]) rfl ⟨_, _, _, _, _, _, _, _, _, 6, k, rfl, unhide Ho, ?_, fun h => by omega⟩
                (repeat (first | refine Below.setCell ?_ (by simp) _ | exact unhide Hbw | refine Below.drewN ?_ _))
              · have hz' : (kk == 0) = false := by simpa using hz
                have Hst2 : Hid (badK k kinds (pss.drop k) = badK ((k + 1 : Nat) : Int) (kinds ++ [kk]) (pss.drop (k + 1))) := by show _ = _; rw [unhide Hst, unhide Hkk, hz']; rfl
                clear hz
                go_wp2_with (first
                  | (at_builtin; refine wpList_append_own _ rfl _ _ 28 rfl (w2.heap.size + 1) 3 ii (.int .i64 0) 1 8 Tryz.underlying28 hi hz0 hz1 hz2 rfl (by decide) _ _ _ rfl (World.ownsRow.alloc (by exact unhide Hkr) _) ⟨wr.heap.size, 0, none⟩ 1 1 [.int .i64 kk] rfl rfl (cell_one_new' _ _ rfl _ _) (fun x hx => by simp at hx; subst hx; rfl) (by unfold maxLen; omega) (by omega) (by simp; omega) ?_; intro vk' w5 hown5 hgr5 _))
                have Hown5 := hide hown5
                have Hgr5 := hide hgr5
                clear hown5 hgr5
                go_wp2_with fail
                go_roundw
                case rel =>
                  refine ⟨k + 1, kinds ++ [kk], by omega, by go_num, ?_, ?_, ?_, ?_, ?_⟩
                  · show _ = _
                    simp [unhide Hkl]
                  · intro x hx
                    simp at hx
                    rcases hx with hx | rfl
                    · exact unhide Hkb x hx
                    · exact ⟨hkk0, hkk2⟩
                  · show _ = _
                    rw [← unhide Hbk, unhide Hst2]
                  · show World.ownsRow _ _ _ _ _ _ _
                    simpa using unhide Hown5
                  · exact (((unhide Hbel).drewN _).alloc (by simpa using hszr) _).grown (unhide Hgr5) (by simp; omega) (fun g hg => ((unhide Hkr).lt g hg).1)
                case measure => simp [intOf]; omega
            · obtain rfl : k = ss.length := by omega
              have Ho : Hid (outc (pdv pd) pss = (0, 0)) := by
                show _ = _
                have : badK 0 [] pss = -1 := by rw [← unhide Hbk, List.drop_eq_nil_of_le (by rw [unhide Hpl]; exact Nat.le_refl _)]; rfl
                unfold outc; rw [if_neg (unhide Hsm), if_neg (by have := unhide Hp0; omega), if_neg (by have := unhide Hn0; omega), this, if_neg (by omega)]
              go_wp2_with fail
              refine bodyPost_ret (v := .tuple #[.agg #[.slice aof pd.length capf, .slice aot pd.length capt, .slice aor ss.length capr], .int .i64 0, .int .i64 0]) (by simp [results, Tryz.results76, go_sem, y0, y1, y2]) rfl ⟨_, _, _, _, _, _, _, _, _, 0, 0, rfl, unhide Ho, ?_, fun _ => ⟨ss, unhide Hss, ?_⟩⟩
              · (repeat (first | refine Below.setCell ?_ (by simp) _ | exact unhide Hbw | refine Below.drewN ?_ _))
              · have hsr := unhide HSr
                refine ⟨?_, ?_, ?_⟩
                · exact ownsRow_base (ownsRow_setCell_below (ownsRow_setCell_below (ownsRow_setCell_below hsr.rf (by simp; omega) _) (by simp; omega) _) (by simp; omega) _) (fun g hg => by have := (hsr.rf.lt g hg).1; omega)
                · exact ownsRow_base (ownsRow_setCell_below (ownsRow_setCell_below (ownsRow_setCell_below hsr.rt (by simp; omega) _) (by simp; omega) _) (by simp; omega) _) (fun g hg => by have := (hsr.rt.lt g hg).1; omega)
                · exact ownsRow_base (ownsRow_setCell_below (ownsRow_setCell_below (ownsRow_setCell_below hsr.rr (by simp; omega) _) (by simp; omega) _) (by simp; omega) _) (fun g hg => by have := (hsr.rr.lt g hg).1; omega)

end Go.Proofs.YtdchbenfccofpaaGreatDoor
namespace Go.Proofs.YtdchbenfccofpaaGreatDoor
open Go.RowKit Db

def cellsC (l : List Cl) : List Value := l.flatMap fun c => [.int .i64 c.1, .int .u8 c.2]
theorem cellsC_snoc (l : List Cl) (c : Cl) : cellsC (l ++ [c]) = cellsC l ++ [.int .i64 c.1, .int .u8 c.2] := by simp [cellsC]
theorem cellsC_length (p : List Cl) : (cellsC p).length = p.length * 2 := by
  induction p with
  | nil => rfl
  | cons x t ih => show (_ :: _ :: cellsC t).length = _; simp [ih]; omega
/-- Rows of cells as they lie. -/
structure CellsAt (w : World) (B : Nat) (vc : Value) (vs : List Value) (cells : List (List Cl)) : Prop where
  own : w.ownsRow B 141 1 vc vs.length vs
  len : vs.length = cells.length
  row : ∀ (i : Nat) v c, vs[i]? = some v → cells[i]? = some c → w.ownsRow B 139 2 v c.length (cellsC c)
theorem CellsAt.kept {w w' : World} {B : Nat} {vc : Value} {vs : List Value} {cells : List (List Cl)} (h : CellsAt w B vc vs cells) (hb : Below w.heap.size w w') : CellsAt w' B vc vs cells :=
  ⟨ownsRow_below h.own hb, h.len, fun i v c h1 h2 => ownsRow_below (h.row i v c h1 h2) hb⟩
theorem CellsAt.nil (w : World) (B : Nat) : CellsAt w B (.slice none 0 0) [] [] := ⟨World.ownsRow_nil _ _ _ _, rfl, by intro i v c h; simp at h⟩
/-- The grid, as it lies at g: the book at pb, the sheet, the cells so far. -/
structure GridAt (w : World) (g : Nat) (s : Bk) (pd : List (List UInt8 × List UInt8)) (cells : List (List Cl)) (pb B : Nat) (vf vt vr vc : Value) (ss : List ByteArray) (vs : List Value) : Prop where
  blk : Blk w g #[.pointer (some ⟨pb, 0, none⟩), vf, vt, vr, vc] 136
  bk : ∃ B', Rfd w B' pb s
  sh : SheetAt w B vf vt vr pd ss
  cs : CellsAt w (g + 1) vc vs cells
  wid : ∀ row ∈ cells, row.length = pd.length
  few : pd.length ≤ 4 ∧ cells.length ≤ 8
  ok : ∀ row ∈ cells, ∀ c ∈ row, ClOk c
theorem Rfd.kept {w w' : World} {B p : Nat} {s : Bk} (h : Rfd w B p s) (hb : Below w.heap.size w w') : Rfd w' B p s := by
  obtain ⟨a, b, c, d, h⟩ := h
  exact ⟨a, b, c, d, h.kept hb⟩
theorem GridAt.kept {w w' : World} {g : Nat} {s : Bk} {pd : List (List UInt8 × List UInt8)} {cells : List (List Cl)} {pb B : Nat} {vf vt vr vc : Value} {ss : List ByteArray} {vs : List Value} (h : GridAt w g s pd cells pb B vf vt vr vc ss vs) (hb : Below w.heap.size w w') : GridAt w' g s pd cells pb B vf vt vr vc ss vs :=
  ⟨h.blk.kept hb, (let ⟨B', hr⟩ := h.bk; ⟨B', hr.kept hb⟩), h.sh.kept hb, h.cs.kept hb, h.wid, h.few, h.ok⟩
/-- What the document gives for an operand. -/
def gE (s : Bk) (pd : List (List UInt8 × List UInt8)) (cells : List (List Cl)) (k : Nat) : Pt → Cl := opE s (pdv pd) cells k

theorem five_cells {W : World} {n : Nat} {a b c d e : Value} {T : TypeId} (B : Blk W n #[a, b, c, d, e] T) : W.cell? ⟨n, 0, none⟩ = some a ∧ W.cell? ⟨n, 1, none⟩ = some b ∧ W.cell? ⟨n, 2, none⟩ = some c ∧ W.cell? ⟨n, 3, none⟩ = some d ∧ W.cell? ⟨n, 4, none⟩ = some e := by
  refine ⟨?_, ?_, ?_, ?_, ?_⟩ <;> rw [B.cell] <;> rfl
theorem row_get {w : World} {g : Nat} {s : Bk} {pd : List (List UInt8 × List UInt8)} {cells : List (List Cl)} {pb B : Nat} {vf vt vr vc : Value} {ss : List ByteArray} {vs : List Value} (h : GridAt w g s pd cells pb B vf vt vr vc ss vs) {n k : Nat} (hn : n < cells.length) (hk : k < pd.length) :
    ∃ gc capc a gr capr x y, vc = .slice (some ⟨gc, 0, none⟩) cells.length capc ∧ w.cell? ⟨gc, n, none⟩ = some (.slice (some ⟨gr, 0, none⟩) pd.length capr) ∧ a = gr ∧ w.cell? ⟨gr, k * 2, none⟩ = some (.int .i64 x) ∧ w.cell? ⟨gr, k * 2 + 1, none⟩ = some (.int .u8 y) ∧ (cells.getD n []).getD k (0, 0) = (x, y) ∧ gc < w.heap.size ∧ gr < w.heap.size := by
  obtain ⟨v, hv⟩ : ∃ v, vs[n]? = some v := ⟨vs[n]'(by rw [h.cs.len]; exact hn), List.getElem?_eq_getElem _⟩
  obtain ⟨c, hc⟩ : ∃ c, cells[n]? = some c := ⟨cells[n], List.getElem?_eq_getElem hn⟩
  have hr := h.cs.row n v c hv hc
  have hcl := h.wid c (List.mem_of_getElem? hc)
  obtain ⟨gc, capc, rfl, hg, hg'⟩ := ownsRow_some h.cs.own (by rw [h.cs.len]; omega)
  obtain ⟨gr, capr, rfl, hr1, hr2⟩ := ownsRow_some hr (by omega)
  obtain ⟨x, hx⟩ : ∃ x, c[k]? = some x := ⟨c[k]'(by omega), List.getElem?_eq_getElem _⟩
  have h2 := two_get (fun c : Cl => Value.int .i64 c.1) (fun c => Value.int .u8 c.2) c k x hx
  have d0 := ownsRow_cell h.cs.own (j := n) hv
  have d1 := ownsRow_cell hr (j := k * 2) h2.1
  have d2 := ownsRow_cell hr (j := k * 2 + 1) h2.2
  refine ⟨gc, capc, gr, gr, capr, x.1, x.2, by rw [h.cs.len], by rw [d0, hcl], rfl, d1, d2, ?_, hg', hr2⟩
  have e1 : cells.getD n [] = c := by rw [List.getD_eq_getElem?_getD, hc, Option.getD_some]
  rw [e1, List.getD_eq_getElem?_getD, hx, Option.getD_some]
end Go.Proofs.YtdchbenfccofpaaGreatDoor
namespace Go.Proofs.YtdchbenfccofpaaGreatDoor
open Go.RowKit Db

/-- The grid as it lies, whatever else. -/
def Grd (w : World) (g : Nat) (s : Bk) (pd : List (List UInt8 × List UInt8)) (cells : List (List Cl)) : Prop := ∃ pb B vf vt vr vc ss vs, GridAt w g s pd cells pb B vf vt vr vc ss vs
theorem Grd.kept {w w' : World} {g : Nat} {s : Bk} {pd : List (List UInt8 × List UInt8)} {cells : List (List Cl)} (h : Grd w g s pd cells) (hb : Below w.heap.size w w') : Grd w' g s pd cells := by
  obtain ⟨a, b, c, d, e, f, i, j, h⟩ := h
  exact ⟨a, b, c, d, e, f, i, j, h.kept hb⟩
theorem dig_at {t : ByteArray} {l : List UInt8} (h : L t = l) (hd : ∀ c ∈ l, digB c.toNat = true) : ∀ k (hk : k < t.size), 48 ≤ t[k].toNat ∧ t[k].toNat ≤ 57 := by
  intro k hk
  have := hd t[k] (by rw [← h, ← L_get t k hk]; exact List.getElem_mem _)
  simp [digB] at this
  omega
theorem val_in {l : List UInt8} (h : l.length ≤ 18) (hd : ∀ c ∈ l, digB c.toNat = true) : inR (val l) = true := by
  have h1 := val_pos l hd
  have h2 := val_lt l hd
  have h3 : (10 : Int) ^ l.length ≤ 10 ^ 18 := by
    have : (10 : Nat) ^ l.length ≤ 10 ^ 18 := Nat.pow_le_pow_right (by omega) h
    exact_mod_cast this
  have : (10 : Int) ^ 18 = 1000000000000000000 := by decide
  rw [inR_iff]; omega

set_option maxRecDepth 100000 in
set_option maxHeartbeats 2000000 in
theorem gOpnd_num (t : ByteArray) (g k : Nat) (w : World) (h1 : 1 ≤ (L t).length) (h18 : (L t).length ≤ 18) (hd : ∀ c ∈ L t, digB c.toNat = true) :
    Calls Tryz.prog 120 #[.pointer (some ⟨g, 0, none⟩), .string t, .int .i64 (k : Int)] w fun e w' => e = .returned (clV (val (L t), 0)) ∧ Below w.heap.size w w' := by
  have hz : 0 < t.size := by rw [← L_length]; omega
  have hd0 : digB (t[0].toNat : Int) = true := hd _ (by rw [← L_get t 0 hz]; exact List.getElem_mem _)
  have Hd0 := hide hd0
  have hs : t.size ≤ 18 := by rw [← L_length]; exact h18
  have Hda := hide (dig_at rfl hd)
  clear hd hd0 h1 h18
  go_enter Tryz.func120, Tryz.ntmps120
  go_wp2_with fail
  refine (digit_any _ _).mono ?_
  rintro e w1 ⟨rfl, rfl⟩
  rw [unhide Hd0]
  go_wp2_with fail
  refine (value_any t _ hs (unhide Hda)).mono ?_
  rintro e w1 ⟨rfl, _, _, rfl⟩
  go_wp2_with fail
  refine bodyPost_ret (v := clV (val (L t), 0)) (by simp [results, Tryz.results120, go_sem, clV]) rfl ⟨rfl, ?_⟩
  first
    | exact (((Below.refl _ _).alloc (Nat.le_refl _) _).setCell (by simp) _).setCell (by simp) _
    | exact (Below.refl _ _).alloc (Nat.le_refl _) _

/-- What stands behind the sign. -/
theorem sign_val {t : ByteArray} {c : UInt8} {ds : List UInt8} (he : L t = c :: ds) (h1 : 1 ≤ ds.length) (h2 : ds.length ≤ 2) (hd : ∀ x ∈ ds, digB x.toNat = true) :
    1 < t.size ∧ t.size ≤ 3 ∧ (∀ hz : 0 < t.size, t[0] = c) ∧ (t.extract 1 t.size).size ≤ 18 ∧ (∀ k (hk : k < (t.extract 1 t.size).size), 48 ≤ (t.extract 1 t.size)[k].toNat ∧ (t.extract 1 t.size)[k].toNat ≤ 57) ∧ ∃ n : Nat, val (L (t.extract 1 t.size)) = n ∧ val ds = n := by
  have hsz : t.size = ds.length + 1 := by rw [← L_length, he]; rfl
  have hex : L (t.extract 1 t.size) = ds := by
    rw [L_extract, he, List.drop_succ_cons, List.drop_zero]
    exact List.take_of_length_le (by omega)
  refine ⟨by omega, by omega, fun hz => ?_, ?_, dig_at hex hd, (val ds).toNat, ?_, ?_⟩
  · have e1 := L_get? t 0 hz
    rw [he] at e1
    simpa using e1.symm
  · rw [← L_length, hex]; omega
  · rw [hex]; have := val_pos ds hd; omega
  · have := val_pos ds hd; omega

set_option maxRecDepth 100000 in
set_option maxHeartbeats 2000000 in
theorem gOpnd_row (t : ByteArray) (g k : Nat) (s : Bk) (pd : List (List UInt8 × List UInt8)) (cells : List (List Cl)) (w : World) (c : UInt8) (ds : List UInt8) (he : L t = c :: ds) (h1 : 1 ≤ ds.length) (h2 : ds.length ≤ 2) (hd : ∀ x ∈ ds, digB x.toNat = true)
    (hc : (c.toNat : Int) = 36) (h : Grd w g s pd cells) (hk : k < pd.length) (hn : (val ds).toNat < cells.length) :
    Calls Tryz.prog 120 #[.pointer (some ⟨g, 0, none⟩), .string t, .int .i64 (k : Int)] w fun e w' => e = .returned (clV ((cells.getD (val ds).toNat []).getD k (0, 0))) ∧ Below w.heap.size w w' := by
  obtain ⟨hz1, hz3, ht0, hes, hed, n, hv, hn2⟩ := sign_val he h1 h2 hd
  obtain ⟨pb, B, vf, vt, vr, vc, ss, vs, h⟩ := h
  rw [hn2, Int.toNat_natCast] at hn ⊢
  obtain ⟨gc, capc, _, gr, capr, x, y, rfl, r1, _, r2, r3, hxy, hgc, hgr⟩ := row_get h hn hk
  rw [hxy]
  have c4 := (five_cells h.blk).2.2.2.2
  have hgl := h.blk.lt
  have h36 : (t[0].toNat : Int) = 36 := by rw [ht0 (by omega)]; exact hc
  have hf := h.few
  have Hed := hide hed
  have Hv := hide hv
  have hnc : (n : Int) < (cells.length : Int) := by omega
  have hkp : (k : Int) < (pd.length : Int) := by omega
  have hz : 0 < t.size := by omega
  clear h he h1 h2 hd hc hn2 ht0 hed hv hxy
  go_enter Tryz.func120, Tryz.ntmps120
  go_wp2_with fail
  refine (digit_any _ _).mono ?_
  rintro e w1 ⟨rfl, rfl⟩
  rw [show digB (36 : Int) = false from rfl]
  go_wp2_with fail
  refine (value_any _ _ hes (unhide Hed)).mono ?_
  rintro e w1 ⟨rfl, _, _, rfl⟩
  rw [unhide Hv]
  go_wp2_with fail
  refine bodyPost_ret (v := clV (x, y)) (by simp [results, Tryz.results120, go_sem, clV]) rfl ⟨rfl, ?_⟩
  first
    | exact (((Below.refl _ _).alloc (Nat.le_refl _) _).setCell (by simp) _).setCell (by simp) _
    | exact (Below.refl _ _).alloc (Nat.le_refl _) _

set_option maxRecDepth 100000 in
set_option maxHeartbeats 2000000 in
theorem gOpnd_first (t : ByteArray) (g : Nat) (w : World) (c : UInt8) (ds : List UInt8) (he : L t = c :: ds) (h1 : 1 ≤ ds.length) (h2 : ds.length ≤ 2) (hd : ∀ x ∈ ds, digB x.toNat = true)
    (hc : (c.toNat : Int) = 60) :
    Calls Tryz.prog 120 #[.pointer (some ⟨g, 0, none⟩), .string t, .int .i64 0] w fun e w' => e = .returned (clV (0, 0)) ∧ Below w.heap.size w w' := by
  obtain ⟨hz1, hz3, ht0, hes, hed, n, hv, hn2⟩ := sign_val he h1 h2 hd
  have h36 : (t[0].toNat : Int) = 60 := by rw [ht0 (by omega)]; exact hc
  have Hed := hide hed
  have Hv := hide hv
  have hz : 0 < t.size := by omega
  clear he h1 h2 hd hc hn2 ht0 hed hv
  go_enter Tryz.func120, Tryz.ntmps120
  go_wp2_with fail
  refine (digit_any _ _).mono ?_
  rintro e w1 ⟨rfl, rfl⟩
  rw [show digB (60 : Int) = false from rfl]
  go_wp2_with fail
  refine (value_any _ _ hes (unhide Hed)).mono ?_
  rintro e w1 ⟨rfl, _, _, rfl⟩
  rw [unhide Hv]
  go_wp2_with fail
  refine bodyPost_ret (v := clV (0, 0)) (by simp [results, Tryz.results120, go_sem, clV]) rfl ⟨rfl, ?_⟩
  first
    | exact (((Below.refl _ _).alloc (Nat.le_refl _) _).setCell (by simp) _).setCell (by simp) _
    | exact (Below.refl _ _).alloc (Nat.le_refl _) _

set_option maxRecDepth 100000 in
set_option maxHeartbeats 2000000 in
theorem gOpnd_prev (t : ByteArray) (g k : Nat) (s : Bk) (pd : List (List UInt8 × List UInt8)) (cells : List (List Cl)) (w : World) (c : UInt8) (ds : List UInt8) (he : L t = c :: ds) (h1 : 1 ≤ ds.length) (h2 : ds.length ≤ 2) (hd : ∀ x ∈ ds, digB x.toNat = true)
    (hc : (c.toNat : Int) = 60) (h : Grd w g s pd cells) (hk : k < pd.length) (hn : (val ds).toNat < cells.length) :
    Calls Tryz.prog 120 #[.pointer (some ⟨g, 0, none⟩), .string t, .int .i64 ((k + 1 : Nat) : Int)] w fun e w' => e = .returned (clV ((cells.getD (val ds).toNat []).getD k (0, 0))) ∧ Below w.heap.size w w' := by
  obtain ⟨hz1, hz3, ht0, hes, hed, n, hv, hn2⟩ := sign_val he h1 h2 hd
  obtain ⟨pb, B, vf, vt, vr, vc, ss, vs, h⟩ := h
  rw [hn2, Int.toNat_natCast] at hn ⊢
  obtain ⟨gc, capc, _, gr, capr, x, y, rfl, r1, _, r2, r3, hxy, hgc, hgr⟩ := row_get h hn hk
  rw [hxy]
  have c4 := (five_cells h.blk).2.2.2.2
  have hgl := h.blk.lt
  have h36 : (t[0].toNat : Int) = 60 := by rw [ht0 (by omega)]; exact hc
  have hf := h.few
  have Hed := hide hed
  have Hv := hide hv
  have hnc : (n : Int) < (cells.length : Int) := by omega
  have hkp : (k : Int) < (pd.length : Int) := by omega
  have hz : 0 < t.size := by omega
  have hk4 : k ≤ 4 := by omega
  have hk0 : (((k + 1 : Nat) : Int) == 0) = false := by simp; omega
  have hk1 : ((k + 1 : Nat) : Int) = (k : Int) + 1 := by omega
  clear h he h1 h2 hd hc hn2 ht0 hed hv hxy
  go_enter Tryz.func120, Tryz.ntmps120
  go_wp2_with fail
  refine (digit_any _ _).mono ?_
  rintro e w1 ⟨rfl, rfl⟩
  rw [show digB (60 : Int) = false from rfl]
  go_wp2_with fail
  refine (value_any _ _ hes (unhide Hed)).mono ?_
  rintro e w1 ⟨rfl, _, _, rfl⟩
  rw [unhide Hv]
  go_wp2_with fail
  refine bodyPost_ret (v := clV (x, y)) (by simp [results, Tryz.results120, go_sem, clV]) rfl ⟨rfl, ?_⟩
  first
    | exact (((Below.refl _ _).alloc (Nat.le_refl _) _).setCell (by simp) _).setCell (by simp) _
    | exact (Below.refl _ _).alloc (Nat.le_refl _) _

/-- The cells that an operand with a sign reads. -/
theorem day_get {w : World} {g : Nat} {s : Bk} {pd : List (List UInt8 × List UInt8)} {cells : List (List Cl)} {pb B : Nat} {vf vt vr vc : Value} {ss : List ByteArray} {vs : List Value} (h : GridAt w g s pd cells pb B vf vt vr vc ss vs) {k : Nat} (hk : k < pd.length) :
    ∃ gf capf gt capt x y, vf = .slice (some ⟨gf, 0, none⟩) pd.length capf ∧ vt = .slice (some ⟨gt, 0, none⟩) pd.length capt ∧ w.cell? ⟨gf, k, none⟩ = some (.int .i64 x) ∧ w.cell? ⟨gt, k, none⟩ = some (.int .i64 y) ∧ (pdv pd).getD k (0, 0) = (x, y) ∧ gf < w.heap.size ∧ gt < w.heap.size := by
  obtain ⟨gf, capf, rfl, _, hf⟩ := ownsRow_some h.sh.rf (by omega)
  obtain ⟨gt, capt, rfl, _, ht⟩ := ownsRow_some h.sh.rt (by omega)
  obtain ⟨p, hp⟩ : ∃ p, pd[k]? = some p := ⟨pd[k], List.getElem?_eq_getElem hk⟩
  have d1 := ownsRow_cell h.sh.rf (j := k) (u := .int .i64 (val p.1)) (by rw [List.getElem?_map, hp]; rfl)
  have d2 := ownsRow_cell h.sh.rt (j := k) (u := .int .i64 (val p.2)) (by rw [List.getElem?_map, hp]; rfl)
  refine ⟨gf, capf, gt, capt, _, _, rfl, rfl, d1, d2, ?_, hf, ht⟩
  rw [List.getD_eq_getElem?_getD, show (pdv pd)[k]? = some (val p.1, val p.2) by unfold pdv; rw [List.getElem?_map, hp]; rfl, Option.getD_some]
def selC (s : Bk) (sel n a b : Int) : Cl := if sel == 35 then ((tkT (inA s sel n) a b s.txs).2, 0) else ((tkT (inA s sel n) a b s.txs).1, 0)
theorem kept_cell' {W W' : World} (h : Below W.heap.size W W') {a : Addr} {v : Value} (hc : W.cell? a = some v) : W'.cell? a = some v := by
  rw [h.cell (World.block_lt_of_cell? W a hc)]; exact hc

set_option maxRecDepth 100000 in
set_option maxHeartbeats 4000000 in
theorem gOpnd_sel (t : ByteArray) (g k : Nat) (s : Bk) (pd : List (List UInt8 × List UInt8)) (cells : List (List Cl)) (w : World) (c : UInt8) (ds : List UInt8) (he : L t = c :: ds) (h1 : 1 ≤ ds.length) (h2 : ds.length ≤ 2) (hd : ∀ x ∈ ds, digB x.toNat = true)
    (hc : selB (c.toNat : Int) = true) (h : Grd w g s pd cells) (hk : k < pd.length) :
    Calls Tryz.prog 120 #[.pointer (some ⟨g, 0, none⟩), .string t, .int .i64 (k : Int)] w fun e w' => e = .returned (clV (selC s c.toNat (val ds) ((pdv pd).getD k (0, 0)).1 ((pdv pd).getD k (0, 0)).2)) ∧ Below w.heap.size w w' := by
  obtain ⟨hz1, hz3, ht0, hes, hed, n, hv, hn2⟩ := sign_val he h1 h2 hd
  obtain ⟨pb, B, vf, vt, vr, vc, ss, vs, h⟩ := h
  obtain ⟨gf, capf, gt, capt, x, y, rfl, rfl, d1, d2, hxy, hgf, hgt⟩ := day_get h hk
  obtain ⟨B', hR⟩ := h.bk
  rw [hn2, hxy]
  obtain ⟨c0, c1, c2, c3, c4⟩ := five_cells h.blk
  have hgl := h.blk.lt
  have hsz : t[0].toNat = c.toNat := by rw [ht0 (by omega)]
  obtain ⟨o, ho⟩ : ∃ o : Int, (c.toNat : Int) = o := ⟨_, rfl⟩
  have hto : (t[0].toNat : Int) = o := by rw [hsz]; exact ho
  rw [ho] at hc ⊢
  have hdg : digB o = false := by simp [selB] at hc; rcases hc with (rfl | rfl) | rfl <;> rfl
  have n36 := sel_ne hc 36 rfl
  have n60 := sel_ne hc 60 rfl
  have hf := h.few
  have Hed := hide hed
  have Hv := hide hv
  have hkp : (k : Int) < (pd.length : Int) := by omega
  have hz : 0 < t.size := by omega
  have Hdg := hide hdg
  have Htk := hide (fun (wx : World) (hb : Below w.heap.size w wx) => taken_any B' pb s o n x y wx (hR.kept hb))
  obtain ⟨u, hu⟩ : ∃ u, tkT (inA s o n) x y s.txs = u := ⟨_, rfl⟩
  rw [hu] at Htk
  obtain ⟨r, hr⟩ : ∃ r, selC s o n x y = r := ⟨_, rfl⟩
  have Hr : Hid (r = if o == 35 then (u.2, 0) else (u.1, 0)) := by show _ = _; rw [← hr]; unfold selC; rw [hu]
  rw [hr]
  clear hr
  have Hsel : Hid (∀ (W : World), Below (w.alloc (.cells #[.int .i64 0, .int .u8 0] 139)).heap.size (w.alloc (.cells #[.int .i64 0, .int .u8 0] 139)) W → Blk W w.heap.size #[.int .i64 0, .int .u8 0] 139 ∧ Below w.heap.size w W) := fun W hb => ⟨(Blk.new _ _ _).kept hb, ((Below.refl _ _).alloc (Nat.le_refl _) _).then' (by simp) hb⟩
  clear h he h1 h2 hd hc hn2 ht0 hed hv hxy hR hdg ho hsz hu
  go_enter Tryz.func120, Tryz.ntmps120
  go_wp2_with fail
  refine (digit_any _ _).mono ?_
  rintro e w1 ⟨rfl, rfl⟩
  rw [unhide Hdg]
  go_wp2_with fail
  refine (value_any _ _ hes (unhide Hed)).mono ?_
  rintro e w1 ⟨rfl, _, _, rfl⟩
  rw [unhide Hv]
  go_upto_region 13 with fail
  go_region_held3 (fun w' => w'.cell? ⟨g, 0, none⟩ = some (.pointer (some ⟨pb, 0, none⟩)) ∧ w'.cell? ⟨g, 1, none⟩ = some (.slice (some ⟨gf, 0, none⟩) pd.length capf) ∧ w'.cell? ⟨g, 2, none⟩ = some (.slice (some ⟨gt, 0, none⟩) pd.length capt) ∧ w'.cell? ⟨gf, k, none⟩ = some (.int .i64 x) ∧ w'.cell? ⟨gt, k, none⟩ = some (.int .i64 y)) (first | go_keep | exact ⟨k0, k1, k2, k3, k4⟩) (first | (go_at_call 165; refine (unhide Htk _ (by exact ((Below.refl _ _).alloc (Nat.le_refl _) _).drew)).mono ?_; rintro e w4 ⟨rfl, hb4⟩; have k0 := kept_cell' hb4 (a := ⟨g, 0, none⟩) (v := .pointer (some ⟨pb, 0, none⟩)) (by simp [*]); have k1 := kept_cell' hb4 (a := ⟨g, 1, none⟩) (v := .slice (some ⟨gf, 0, none⟩) pd.length capf) (by simp [*]); have k2 := kept_cell' hb4 (a := ⟨g, 2, none⟩) (v := .slice (some ⟨gt, 0, none⟩) pd.length capt) (by simp [*]); have k3 := kept_cell' hb4 (a := ⟨gf, k, none⟩) (v := .int .i64 x) (by simp [*]); have k4 := kept_cell' hb4 (a := ⟨gt, k, none⟩) (v := .int .i64 y) (by simp [*])))
  have hsel := unhide Hsel w4 hb4.undrew
  have HB := hide hsel.2
  obtain ⟨r0, r1, z0, z1, lr⟩ := two_cells hsel.1
  clear hsel hb4 Hsel Htk
  cases h35 : (o == 35) with
  | true =>
    obtain rfl : r = (u.2, 0) := by have := unhide Hr; rw [h35] at this; exact this
    go_wp2_with fail
    refine bodyPost_ret (v := clV (u.2, 0)) (by simp [results, Tryz.results120, go_sem, clV, r0, r1]) rfl ⟨rfl, ?_⟩
    exact ((unhide HB).setCell (by simp) _).setCell (by simp) _
  | false =>
    obtain rfl : r = (u.1, 0) := by have := unhide Hr; rw [h35] at this; exact this
    go_wp2_with fail
    refine bodyPost_ret (v := clV (u.1, 0)) (by simp [results, Tryz.results120, go_sem, clV, r0, r1]) rfl ⟨rfl, ?_⟩
    exact ((unhide HB).setCell (by simp) _).setCell (by simp) _

theorem tkT_in {s : Bk} (h : BkGood s) (q : Int → Bool) (a b : Int) : inR (tkT q a b s.txs).1 = true ∧ inR (tkT q a b s.txs).2 = true := by
  have h1 := tkT_le q a b s.txs (fun t ht => ⟨(h.tx t ht).2.2.2.2.1, fun l hl => ⟨((h.tx t ht).2.2.2.2.2 l hl).2.2.1, ((h.tx t ht).2.2.2.2.2 l hl).2.2.2⟩⟩)
  have h2 := h.posts
  rw [inR_iff, inR_iff]
  omega
theorem selC_ok {s : Bk} (h : BkGood s) (o n a b : Int) : ClOk (selC s o n a b) := by
  unfold selC
  split
  · exact .inl ⟨rfl, (tkT_in h _ a b).2⟩
  · exact .inl ⟨rfl, (tkT_in h _ a b).1⟩
theorem Grd.good {w : World} {g : Nat} {s : Bk} {pd : List (List UInt8 × List UInt8)} {cells : List (List Cl)} (h : Grd w g s pd cells) : BkGood s := by
  obtain ⟨_, _, _, _, _, _, _, _, h⟩ := h
  obtain ⟨_, _, _, _, _, h⟩ := h.bk
  exact h.good
theorem cell_ok {cells : List (List Cl)} (h : ∀ row ∈ cells, ∀ c ∈ row, ClOk c) (n k : Nat) : ClOk ((cells.getD n []).getD k (0, 0)) := by
  rw [List.getD_eq_getElem?_getD, List.getD_eq_getElem?_getD]
  cases hn : cells[n]? with
  | none => left; exact ⟨rfl, rfl⟩
  | some row =>
    simp only [Option.getD_some]
    cases hk : row[k]? with
    | none => left; exact ⟨rfl, rfl⟩
    | some c => exact h row (List.mem_of_getElem? hn) c (List.mem_of_getElem? hk)
/-- The cell of an operand, as the document has it. -/
theorem gOperand_any (t : ByteArray) (g k : Nat) (s : Bk) (pd : List (List UInt8 × List UInt8)) (cells : List (List Cl)) (w : World) (p : Pt) (ho : Opnd (L t) [p]) (h : Grd w g s pd cells) (hk : k < pd.length) (hn : oldB p.1 = true → p.2.toNat < cells.length) :
    Calls Tryz.prog 120 #[.pointer (some ⟨g, 0, none⟩), .string t, .int .i64 (k : Int)] w fun e w' => e = .returned (clV (opv (gE s pd cells k) p)) ∧ ClOk (opv (gE s pd cells k) p) ∧ Below w.heap.size w w' := by
  have hgood := h.good
  have hok : ∀ row ∈ cells, ∀ c ∈ row, ClOk c := by obtain ⟨_, _, _, _, _, _, _, _, h⟩ := h; exact h.ok
  rcases ho with ⟨h1, h18, hd, he⟩ | ⟨c, ds, he, h1, hd, hs, hp⟩
  · cases he
    refine (gOpnd_num t g k w h1 h18 hd).mono ?_
    rintro e w1 ⟨rfl, hb⟩
    exact ⟨rfl, .inl ⟨rfl, val_in h18 hd⟩, hb⟩
  · cases hp
    have hl : ds.length ≤ 2 := by rcases hs with ⟨_, h⟩ | ⟨_, h⟩ <;> omega
    rcases hs with ⟨hs, _⟩ | ⟨hs, _⟩
    · refine (gOpnd_sel t g k s pd cells w c ds he h1 hl hd hs h hk).mono ?_
      rintro e w1 ⟨rfl, hb⟩
      have e1 : opv (gE s pd cells k) ((c.toNat : Int), val ds) = selC s c.toNat (val ds) ((pdv pd).getD k (0, 0)).1 ((pdv pd).getD k (0, 0)).2 := by
        have n48 := sel_ne hs 48 rfl
        have n36 := sel_ne hs 36 rfl
        have n60 := sel_ne hs 60 rfl
        unfold opv gE opE selC
        simp only [n48, n36, n60, Bool.false_eq_true, if_false]
      rw [e1]
      exact ⟨rfl, selC_ok hgood _ _ _ _, hb⟩
    · have hcc : (c.toNat : Int) = 36 ∨ (c.toNat : Int) = 60 := by simp [oldB] at hs; omega
      have hn' := hn hs
      simp only at hn'
      rcases hcc with hc | hc
      · refine (gOpnd_row t g k s pd cells w c ds he h1 hl hd hc h hk hn').mono ?_
        rintro e w1 ⟨rfl, hb⟩
        have e1 : opv (gE s pd cells k) ((c.toNat : Int), val ds) = (cells.getD (val ds).toNat []).getD k (0, 0) := by
          rw [hc]; rfl
        rw [e1]
        exact ⟨rfl, cell_ok hok _ _, hb⟩
      · cases k with
        | zero =>
          refine (gOpnd_first t g w c ds he h1 hl hd hc).mono ?_
          rintro e w1 ⟨rfl, hb⟩
          have e1 : opv (gE s pd cells 0) ((c.toNat : Int), val ds) = (0, 0) := by
            rw [hc]; rfl
          rw [e1]
          exact ⟨rfl, .inl ⟨rfl, rfl⟩, hb⟩
        | succ k =>
          refine (gOpnd_prev t g k s pd cells w c ds he h1 hl hd hc h (by omega) hn').mono ?_
          rintro e w1 ⟨rfl, hb⟩
          have e1 : opv (gE s pd cells (k + 1)) ((c.toNat : Int), val ds) = (cells.getD (val ds).toNat []).getD k (0, 0) := by
            rw [hc]; rfl
          rw [e1]
          exact ⟨rfl, cell_ok hok _ _, hb⟩

end Go.Proofs.YtdchbenfccofpaaGreatDoor
namespace Go.Proofs.YtdchbenfccofpaaGreatDoor
open Go.RowKit Db

/-- The contract of worth, at depth n. -/
def WorthC (n : Nat) : Prop := ∀ (t : ByteArray) (ps : List Pt) (g k : Nat) (s : Bk) (pd : List (List UInt8 × List UInt8)) (cells : List (List Cl)) (w : World), t.size ≤ 200 → Wf n (L t) ps → Grd w g s pd cells → k < pd.length → (∀ p ∈ ps, oldB p.1 = true → p.2.toNat < cells.length) →
    Calls Tryz.prog 118 #[.pointer (some ⟨g, 0, none⟩), .string t, .int .i64 (k : Int)] w fun e w' => ∃ c : Cl, e = .returned (clV c) ∧ ValR (gE s pd cells k) ps c ∧ ClOk c ∧ Below w.heap.size w w'
theorem clOk_in {c : Cl} (h : ClOk c) : inR c.1 = true := by
  rcases h with h | rfl | rfl
  · exact h.2
  · rfl
  · rfl

set_option maxRecDepth 100000 in
set_option maxHeartbeats 2000000 in
theorem worth_leaf (t : ByteArray) (ps : List Pt) (g k : Nat) (s : Bk) (pd : List (List UInt8 × List UInt8)) (cells : List (List Cl)) (w : World) (hs : t.size ≤ 200) (hcut : cut (L t) = (0, [], L t)) (hop : Opnd (L t) ps) (h : Grd w g s pd cells) (hk : k < pd.length) (hn : ∀ p ∈ ps, oldB p.1 = true → p.2.toNat < cells.length) :
    Calls Tryz.prog 118 #[.pointer (some ⟨g, 0, none⟩), .string t, .int .i64 (k : Int)] w fun e w' => ∃ c : Cl, e = .returned (clV c) ∧ ValR (gE s pd cells k) ps c ∧ ClOk c ∧ Below w.heap.size w w' := by
  obtain ⟨p, rfl, hp⟩ := opnd_opd hop
  have Hc := hide (fun (wx : World) (hb : Below w.heap.size w wx) => gOperand_any t g k s pd cells wx p hop (h.kept hb) hk (hn p (by simp)))
  have Hv := hide (valR_leaf (gE s pd cells k) hp)
  obtain ⟨c, hc⟩ : ∃ c, opv (gE s pd cells k) p = c := ⟨_, rfl⟩
  rw [hc] at Hc Hv
  have Hcut := hide hcut
  clear hcut hop h hn hp hc
  go_enter Tryz.func118, Tryz.ntmps118
  go_wp2_with fail
  refine (cut_any t _ hs).mono ?_
  rintro e w1 ⟨o, l, r, rfl, ⟨hco, hcl, hcr⟩, m, rfl⟩
  rw [unhide Hcut] at hco hcl hcr
  obtain rfl : r = t := L_inj hcr
  subst hco
  clear hcl hcr
  go_wp2_with fail
  refine (unhide Hc _ (by exact ((Below.refl _ _).alloc (Nat.le_refl _) _).drewN m)).mono ?_
  rintro e w2 ⟨rfl, hok, hb⟩
  have Hok := hide hok
  have HB : Hid (Below w.heap.size w w2) := (((Below.refl _ _).alloc (Nat.le_refl _) _).drewN m).then' (by simp) hb
  obtain ⟨r0, r1, z0, z1, lr⟩ := two_cells ((Blk.new w #[.int .i64 0, .int .u8 0] 139).kept hb.undrewN)
  obtain ⟨c1, c2⟩ := c
  unfold clV
  clear hb hok Hc
  go_wp2_with fail
  refine bodyPost_ret (v := clV (c1, c2)) (by simp [results, Tryz.results118, go_sem, clV, r0, r1]) rfl ⟨(c1, c2), rfl, unhide Hv, unhide Hok, ?_⟩
  exact ((unhide HB).setCell (by simp) _).setCell (by simp) _

set_option maxRecDepth 100000 in
set_option maxHeartbeats 2000000 in
theorem worth_par (n : Nat) (ih : WorthC n) (t : ByteArray) (g k : Nat) (s : Bk) (pd : List (List UInt8 × List UInt8)) (cells : List (List Cl)) (w : World) (hs : t.size ≤ 200) (ps : List Pt) (ho : (cut (L t)).1 = 40) (hw : Wf n (cut (L t)).2.2 ps) (h : Grd w g s pd cells) (hk : k < pd.length) (hn : ∀ p ∈ ps, oldB p.1 = true → p.2.toNat < cells.length) :
    Calls Tryz.prog 118 #[.pointer (some ⟨g, 0, none⟩), .string t, .int .i64 (k : Int)] w fun e w' => ∃ c : Cl, e = .returned (clV c) ∧ ValR (gE s pd cells k) ps c ∧ ClOk c ∧ Below w.heap.size w w' := by
  have Hih := hide (fun (wx : World) (r : ByteArray) (hb : Below w.heap.size w wx) (hr : r.size ≤ 200) (hwr : Wf n (L r) ps) => ih r ps g k s pd cells wx hr hwr (h.kept hb) hk hn)
  have Hw := hide hw
  have Ho := hide ho
  obtain ⟨E, hE⟩ : ∃ E, gE s pd cells k = E := ⟨_, rfl⟩
  rw [hE] at Hih ⊢
  clear ih hw ho h hn hE
  go_enter Tryz.func118, Tryz.ntmps118
  go_wp2_with fail
  refine (cut_any t _ hs).mono ?_
  rintro e w1 ⟨o, l, r, rfl, ⟨hco, hcl, hcr⟩, m, rfl⟩
  obtain rfl : (40 : Int) = o := (unhide Ho).symm.trans hco
  have Hr : Hid (Wf n (L r) ps) := by show Wf _ _ _; rw [hcr]; exact unhide Hw
  have hrs : r.size ≤ 200 := Nat.le_trans (size_of_L hcr (cut_le (L t)).2) hs
  clear hco hcl hcr Hw Ho
  go_wp2_with fail
  refine (unhide Hih _ r (by exact ((Below.refl _ _).alloc (Nat.le_refl _) _).drewN m) hrs (unhide Hr)).mono ?_
  rintro e w2 ⟨c, rfl, hv, hok, hb⟩
  have Hok := hide hok
  have Hv := hide hv
  have HB : Hid (Below w.heap.size w w2) := (((Below.refl _ _).alloc (Nat.le_refl _) _).drewN m).then' (by simp) hb
  obtain ⟨r0, r1, z0, z1, lr⟩ := two_cells ((Blk.new w #[.int .i64 0, .int .u8 0] 139).kept hb.undrewN)
  obtain ⟨c1, c2⟩ := c
  unfold clV
  clear hb hok hv Hih
  go_wp2_with fail
  refine bodyPost_ret (v := clV (c1, c2)) (by simp [results, Tryz.results118, go_sem, clV, r0, r1]) rfl ⟨(c1, c2), rfl, unhide Hv, unhide Hok, ?_⟩
  exact ((unhide HB).setCell (by simp) _).setCell (by simp) _

set_option maxRecDepth 100000 in
set_option maxHeartbeats 2000000 in
theorem worth_neg (n : Nat) (ih : WorthC n) (t : ByteArray) (g k : Nat) (s : Bk) (pd : List (List UInt8 × List UInt8)) (cells : List (List Cl)) (w : World) (hs : t.size ≤ 200) (ps : List Pt) (ho : (cut (L t)).1 = 126) (hw : Wf n (cut (L t)).2.2 ps) (h : Grd w g s pd cells) (hk : k < pd.length) (hn : ∀ p ∈ ps, oldB p.1 = true → p.2.toNat < cells.length) :
    Calls Tryz.prog 118 #[.pointer (some ⟨g, 0, none⟩), .string t, .int .i64 (k : Int)] w fun e w' => ∃ c : Cl, e = .returned (clV c) ∧ ValR (gE s pd cells k) (ps ++ [(126, 0)]) c ∧ ClOk c ∧ Below w.heap.size w w' := by
  have Hih := hide (fun (wx : World) (r : ByteArray) (hb : Below w.heap.size w wx) (hr : r.size ≤ 200) (hwr : Wf n (L r) ps) => ih r ps g k s pd cells wx hr hwr (h.kept hb) hk hn)
  have Hw := hide hw
  have Ho := hide ho
  obtain ⟨E, hE⟩ : ∃ E, gE s pd cells k = E := ⟨_, rfl⟩
  rw [hE] at Hih ⊢
  clear ih hw ho h hn hE
  go_enter Tryz.func118, Tryz.ntmps118
  go_wp2_with fail
  refine (cut_any t _ hs).mono ?_
  rintro e w1 ⟨o, l, r, rfl, ⟨hco, hcl, hcr⟩, m, rfl⟩
  obtain rfl : (126 : Int) = o := (unhide Ho).symm.trans hco
  have Hr : Hid (Wf n (L r) ps) := by show Wf _ _ _; rw [hcr]; exact unhide Hw
  have hrs : r.size ≤ 200 := Nat.le_trans (size_of_L hcr (cut_le (L t)).2) hs
  clear hco hcl hcr Hw Ho
  go_wp2_with fail
  refine (unhide Hih _ r (by exact ((Below.refl _ _).alloc (Nat.le_refl _) _).drewN m) hrs (unhide Hr)).mono ?_
  rintro e w2 ⟨c, rfl, hv, hok, hb⟩
  have Hok := hide hok
  have Hv := hide hv
  have HB : Hid (Below w.heap.size w w2) := (((Below.refl _ _).alloc (Nat.le_refl _) _).drewN m).then' (by simp) hb
  have HR := hide ((Blk.new w #[.int .i64 0, .int .u8 0] 139).kept hb.undrewN)
  have hsz := (unhide HB).size
  have Hdn := hide (fun (wx : World) => done_any 45 (0, 0) c wx rfl (clOk_in hok))
  have Hd2 : Hid (ValR E (ps ++ [(126, 0)]) (don 45 (0, 0) c) ∧ ClOk (don 45 (0, 0) c)) := ⟨valR_neg hv, don_ok (.inl ⟨rfl, rfl⟩) hok⟩
  obtain ⟨d, hd⟩ : ∃ d, don 45 (0, 0) c = d := ⟨_, rfl⟩
  rw [hd] at Hdn Hd2
  obtain ⟨c1, c2⟩ := c
  unfold clV at Hdn ⊢
  simp only at Hdn
  clear hb hok hv Hih hd Hv Hok
  go_wp2_with fail
  refine (unhide Hdn _).mono ?_
  rintro e w3 ⟨rfl, hb3⟩
  obtain ⟨d1, d2⟩ := d
  obtain ⟨r0, r1, z0, z1, lr⟩ := two_cells (((unhide HR).alloc (.cells #[.int .i64 c1, .int .u8 c2] 139)).kept hb3)
  have HB3 := hide (((unhide HB).alloc hsz _).then' (by simp; omega) hb3)
  simp only
  clear hb3 Hdn
  go_wp2_with fail
  refine bodyPost_ret (v := clV (d1, d2)) (by simp [results, Tryz.results118, go_sem, clV, r0, r1]) rfl ⟨(d1, d2), rfl, (unhide Hd2).1, (unhide Hd2).2, ?_⟩
  exact ((unhide HB3).setCell (by simp) _).setCell (by simp) _

set_option maxRecDepth 100000 in
set_option maxHeartbeats 2000000 in
theorem worth_bin (n : Nat) (ih : WorthC n) (t : ByteArray) (g k : Nat) (s : Bk) (pd : List (List UInt8 × List UInt8)) (cells : List (List Cl)) (w : World) (hs : t.size ≤ 200) (p q : List Pt) (ho : opB (cut (L t)).1 = true) (hp : Wf n (cut (L t)).2.1 p) (hq : Wf n (cut (L t)).2.2 q) (h : Grd w g s pd cells) (hk : k < pd.length) (hnp : ∀ x ∈ p, oldB x.1 = true → x.2.toNat < cells.length) (hnq : ∀ x ∈ q, oldB x.1 = true → x.2.toNat < cells.length) :
    Calls Tryz.prog 118 #[.pointer (some ⟨g, 0, none⟩), .string t, .int .i64 (k : Int)] w fun e w' => ∃ c : Cl, e = .returned (clV c) ∧ ValR (gE s pd cells k) (p ++ q ++ [((cut (L t)).1, 0)]) c ∧ ClOk c ∧ Below w.heap.size w w' := by
  have Hip := hide (fun (wx : World) (r : ByteArray) (hb : Below w.heap.size w wx) (hr : r.size ≤ 200) (hwr : Wf n (L r) p) => ih r p g k s pd cells wx hr hwr (h.kept hb) hk hnp)
  have Hiq := hide (fun (wx : World) (r : ByteArray) (hb : Below w.heap.size w wx) (hr : r.size ≤ 200) (hwr : Wf n (L r) q) => ih r q g k s pd cells wx hr hwr (h.kept hb) hk hnq)
  have Hp := hide hp
  have Hq := hide hq
  have Ho := hide ho
  obtain ⟨E, hE⟩ : ∃ E, gE s pd cells k = E := ⟨_, rfl⟩
  rw [hE] at Hip Hiq ⊢
  obtain ⟨oo, hoo⟩ : ∃ oo, (cut (L t)).1 = oo := ⟨_, rfl⟩
  rw [hoo]
  have Hoo := hide hoo
  clear ih hp hq ho h hnp hnq hE hoo
  go_enter Tryz.func118, Tryz.ntmps118
  go_wp2_with fail
  refine (cut_any t _ hs).mono ?_
  rintro e w1 ⟨o, l, r, rfl, ⟨hco, hcl, hcr⟩, m, rfl⟩
  have ho := unhide Ho
  rw [hco] at ho
  obtain rfl : oo = o := (unhide Hoo).symm.trans hco
  have Hl : Hid (Wf n (L l) p) := by show Wf _ _ _; rw [hcl]; exact unhide Hp
  have Hr : Hid (Wf n (L r) q) := by show Wf _ _ _; rw [hcr]; exact unhide Hq
  have hls : l.size ≤ 200 := Nat.le_trans (size_of_L hcl (cut_le (L t)).1) hs
  have hrs : r.size ≤ 200 := Nat.le_trans (size_of_L hcr (cut_le (L t)).2) hs
  have n40 := op_ne ho 40 rfl
  have n126 := op_ne ho 126 rfl
  have n0 := op_ne ho 0 rfl
  have Hoq := hide ho
  clear hco hcl hcr Hp Hq Ho ho
  go_wp2_with fail
  refine (unhide Hip _ l (by exact ((Below.refl _ _).alloc (Nat.le_refl _) _).drewN m) hls (unhide Hl)).mono ?_
  rintro e w2 ⟨c, rfl, hv, hok, hb⟩
  have Hok := hide hok
  have Hv := hide hv
  have HB : Hid (Below w.heap.size w w2) := (((Below.refl _ _).alloc (Nat.le_refl _) _).drewN m).then' (by simp) hb
  have HR := hide ((Blk.new w #[.int .i64 0, .int .u8 0] 139).kept hb.undrewN)
  have hsz := (unhide HB).size
  obtain ⟨c1, c2⟩ := c
  unfold clV
  simp only
  clear hb hok hv Hip
  go_wp2_with fail
  refine (unhide Hiq _ r (by exact (unhide HB).alloc hsz _) hrs (unhide Hr)).mono ?_
  rintro e w3 ⟨d, rfl, hv, hok, hb⟩
  have Hok3 := hide hok
  have Hv3 := hide hv
  have HB3 := hide (((unhide HB).alloc hsz _).then' (by simp; omega) hb)
  have HR3 := hide (((unhide HR).alloc (.cells #[.int .i64 c1, .int .u8 c2] 139)).kept hb)
  have hsz3 := (unhide HB3).size
  obtain ⟨x0, x1, _, _, lx⟩ := two_cells ((Blk.new w2 #[.int .i64 c1, .int .u8 c2] 139).kept hb)
  have Hdn := hide (fun (wx : World) => done_any oo (c1, c2) d wx (clOk_in (unhide Hok)) (clOk_in hok))
  have Hd2 : Hid (ValR E (p ++ q ++ [(oo, 0)]) (don oo (c1, c2) d) ∧ ClOk (don oo (c1, c2) d)) := ⟨valR_bin (unhide Hoq) (unhide Hv) hv, don_ok (unhide Hok) hok⟩
  obtain ⟨z, hz⟩ : ∃ z, don oo (c1, c2) d = z := ⟨_, rfl⟩
  rw [hz] at Hdn Hd2
  obtain ⟨d1, d2⟩ := d
  unfold clV at Hdn ⊢
  simp only at Hdn ⊢
  clear hb hok hv Hiq hz Hv Hok Hok3 Hv3
  go_wp2_with fail
  refine (unhide Hdn _).mono ?_
  rintro e w4 ⟨rfl, hb4⟩
  obtain ⟨z1, z2⟩ := z
  obtain ⟨r0, r1, y0, y1, lr⟩ := two_cells (((unhide HR3).alloc (.cells #[.int .i64 d1, .int .u8 d2] 139)).kept hb4)
  have HB4 := hide (((unhide HB3).alloc hsz3 _).then' (by simp; omega) hb4)
  simp only
  clear hb4 Hdn
  go_wp2_with fail
  refine bodyPost_ret (v := clV (z1, z2)) (by simp [results, Tryz.results118, go_sem, clV, r0, r1]) rfl ⟨(z1, z2), rfl, (unhide Hd2).1, (unhide Hd2).2, ?_⟩
  exact ((unhide HB4).setCell (by simp) _).setCell (by simp) _

theorem worth_any (n : Nat) : WorthC n := by
  induction n with
  | zero => intro t ps g k s pd cells w hs hw; exact absurd hw (by simp [Wf])
  | succ n ih =>
    intro t ps g k s pd cells w hs hw h hk hn
    rcases hw with ⟨hc, hop⟩ | ⟨hc, hw⟩ | ⟨hc, p, hw, rfl⟩ | ⟨hc, p, q, hp, hq, rfl⟩
    · exact worth_leaf t ps g k s pd cells w hs hc hop h hk hn
    · exact worth_par n ih t g k s pd cells w hs ps hc hw h hk hn
    · exact worth_neg n ih t g k s pd cells w hs p hc hw h hk (fun x hx => hn x (by simp [hx]))
    · exact worth_bin n ih t g k s pd cells w hs p q hc hp hq h hk (fun x hx => hn x (by simp [hx])) (fun x hx => hn x (by simp [hx]))

end Go.Proofs.YtdchbenfccofpaaGreatDoor
namespace Go.Proofs.YtdchbenfccofpaaGreatDoor
open Go.RowKit Db

theorem info_cell : (Tryz.prog.info? 139).map (fun i => (i.zero, i.size, i.bytes)) = some (some (.agg #[.int .i64 0, .int .u8 0]), 2, 16) := by kernel_rfl
theorem info_cells : (Tryz.prog.info? 141).map (fun i => (i.zero, i.size, i.bytes)) = some (some (.slice none 0 0), 1, 24) := by kernel_rfl
theorem own_down {w : World} {B B' : Nat} {e : TypeId} {size : Nat} {v : Value} {n : Nat} {xs : List Value} (h : w.ownsRow B e size v n xs) (hB : B' ≤ B) : w.ownsRow B' e size v n xs := by
  refine ⟨h.1, ?_⟩
  rcases h.2 with hn | ⟨g, cap, cur, rfl, hbg, rest⟩
  · exact .inl hn
  · exact .inr ⟨g, cap, cur, rfl, Nat.le_trans hB hbg, rest⟩
/-- One row more. -/
theorem CellsAt.snoc {W w5 : World} {B : Nat} {vc vc' v2 : Value} {vs : List Value} {cells : List (List Cl)} {row : List Cl} (h : CellsAt W B vc vs cells) (o : Obj)
    (hv : W.ownsRow B 139 2 v2 row.length (cellsC row)) (hown : w5.ownsRow B 141 1 vc' (vs.length + 1) (vs ++ [v2])) (hgr : (W.alloc o).grownBy w5 vc.ownBlock) : CellsAt w5 B vc' (vs ++ [v2]) (cells ++ [row]) := by
  refine ⟨by simpa using hown, by simp [h.len], ?_⟩
  intro i v c h1 h2
  by_cases hi : i < vs.length
  · rw [List.getElem?_append_left hi] at h1
    rw [List.getElem?_append_left (by rw [← h.len]; exact hi)] at h2
    exact ((h.row i v c h1 h2).alloc o).kept hgr (own_apart' (h.row i v c h1 h2) h.own (by decide))
  · rw [List.getElem?_append_right (by omega)] at h1
    rw [List.getElem?_append_right (by rw [← h.len]; omega)] at h2
    rw [← h.len] at h2
    match hk : i - vs.length, h1, h2 with
    | 0, h1, h2 =>
      simp at h1 h2
      subst h1 h2
      exact (hv.alloc o).kept hgr (own_apart' hv h.own (by decide))
    | k + 1, h1, h2 => simp at h1
theorem CellsAt.set {W : World} {B : Nat} {vc : Value} {vs : List Value} {cells : List (List Cl)} (h : CellsAt W B vc vs cells) {a : Addr} (ha : a.block < B) (u : Value) : CellsAt (W.setCell a u) B vc vs cells :=
  ⟨ownsRow_setCell_below h.own ha u, h.len, fun i v c h1 h2 => ownsRow_setCell_below (h.row i v c h1 h2) ha u⟩
/-- The cells of the first k periods. -/
def rowP (s : Bk) (pd : List (Int × Int)) (cells : List (List Cl)) (ps : List Pt) (k : Nat) : List Cl := (List.range k).map fun i => cel (opE s pd cells i) ps
theorem rowP_snoc (s : Bk) (pd : List (Int × Int)) (cells : List (List Cl)) (ps : List Pt) (k : Nat) : rowP s pd cells ps (k + 1) = rowP s pd cells ps k ++ [cel (opE s pd cells k) ps] := by
  unfold rowP; rw [List.range_succ, List.map_append]; rfl
theorem rowP_len (s : Bk) (pd : List (Int × Int)) (cells : List (List Cl)) (ps : List Pt) (k : Nat) : (rowP s pd cells ps k).length = k := by simp [rowP]
theorem shC_snoc {s : Bk} {pd : List (Int × Int)} {pss : List (List Pt)} {j : Nat} {ps : List Pt} (h : pss[j]? = some ps) : shC s pd (pss.take (j + 1)) = shC s pd (pss.take j) ++ [rowP s pd (shC s pd (pss.take j)) ps pd.length] := by
  unfold shC
  rw [List.take_add_one, h]
  simp only [Option.toList_some, List.foldl_append, List.foldl_cons, List.foldl_nil]
  rfl
theorem shC_len (s : Bk) (pd : List (Int × Int)) (pss : List (List Pt)) : (shC s pd pss).length = pss.length := by
  have key : ∀ (l : List (List Pt)) (acc : List (List Cl)), (l.foldl (fun cells ps => cells ++ [rowC s pd cells ps]) acc).length = acc.length + l.length := by
    intro l
    induction l with
    | nil => intro acc; simp
    | cons x t ih => intro acc; rw [List.foldl_cons, ih]; simp; omega
  unfold shC; rw [key]; simp

/-- A row that can be worked out, at place i. -/
structure RowW (t : ByteArray) (ps : List Pt) (i : Nat) : Prop where
  wf : ∃ n, Wf n (L t) ps
  sz : t.size ≤ 200
  old : ∀ p ∈ ps, oldB p.1 = true → p.2.toNat < i
/-- Where the loop over the rows stands. -/
structure WkSt (w wr : World) (s : Bk) (pd : List (List UInt8 × List UInt8)) (cells : List (List Cl)) (pb B : Nat) (vf vt vr vc : Value) (ss : List ByteArray) (vs : List Value) : Prop where
  sb : Blk wr w.heap.size #[vf, vt, vr] 129
  gr : GridAt wr (w.heap.size + 1) s pd cells pb B vf vt vr vc ss vs
  bel : Below w.heap.size w wr
theorem WkSt.kept {w wr w' : World} {s : Bk} {pd : List (List UInt8 × List UInt8)} {cells : List (List Cl)} {pb B : Nat} {vf vt vr vc : Value} {ss : List ByteArray} {vs : List Value} (h : WkSt w wr s pd cells pb B vf vt vr vc ss vs) (hb : Below wr.heap.size wr w') : WkSt w w' s pd cells pb B vf vt vr vc ss vs :=
  ⟨h.sb.kept hb, h.gr.kept hb, h.bel.then' h.bel.size hb⟩
/-- A row is laid behind the others. -/
theorem WkSt.push {w wr w5 : World} {s : Bk} {pd : List (List UInt8 × List UInt8)} {cells : List (List Cl)} {pb B B' : Nat} {vf vt vr vc vc' v2 : Value} {ss : List ByteArray} {vs : List Value} {row : List Cl} {o : Obj} (h : WkSt w wr s pd cells pb B vf vt vr vc ss vs) (hR : Rfd w B' pb s) (hsh : SheetAt w B vf vt vr pd ss)
    (hv : wr.ownsRow (w.heap.size + 2) 139 2 v2 row.length (cellsC row)) (hown : w5.ownsRow (w.heap.size + 2) 141 1 vc' (vs.length + 1) (vs ++ [v2])) (hgr : (wr.alloc o).grownBy w5 vc.ownBlock) (hw : row.length = pd.length) (h8 : cells.length < 8) (hok : ∀ c ∈ row, ClOk c) :
    WkSt w (w5.setCell ⟨w.heap.size + 1, 4, none⟩ vc') s pd (cells ++ [row]) pb B vf vt vr vc' ss (vs ++ [v2]) := by
  have hsz := h.bel.size
  have hbel : Below w.heap.size w (w5.setCell ⟨w.heap.size + 1, 4, none⟩ vc') := by
    refine Below.setCell ?_ (by simp) _
    exact (h.bel.alloc hsz o).grown hgr (by simp; omega) (fun g hg => by have := (h.gr.cs.own.lt g hg).1; omega)
  refine ⟨?_, ⟨?_, ⟨B', hR.kept hbel⟩, hsh.kept hbel, ?_, ?_, ⟨h.gr.few.1, by simp; omega⟩, ?_⟩, hbel⟩
  · exact ((h.sb.alloc o).grown hgr (fun e => by have := (h.gr.cs.own.lt _ e.symm).1; omega)).setOther _ _ (by simp)
  · have := ((h.gr.blk.alloc o).grown hgr (fun e => by have := (h.gr.cs.own.lt _ e.symm).1; omega)).set 4 vc'
    simpa using this
  · exact (CellsAt.snoc h.gr.cs o hv hown hgr).set (by simp) _
  · intro r hr
    simp at hr
    rcases hr with hr | rfl
    · exact h.gr.wid r hr
    · exact hw
  · intro r hr
    simp at hr
    rcases hr with hr | rfl
    · exact h.gr.ok r hr
    · exact hok

set_option maxRecDepth 100000 in
set_option maxHeartbeats 8000000 in
theorem worked_any (pb B B' : Nat) (s : Bk) (pd : List (List UInt8 × List UInt8)) (ss : List ByteArray) (pss : List (List Pt)) (vf vt vr : Value) (w : World) (hR : Rfd w B' pb s) (hsh : SheetAt w B vf vt vr pd ss) (hp4 : pd.length ≤ 4) (hlen : ss.length = pss.length) (h8 : pss.length ≤ 8)
    (hrow : ∀ (i : Nat) t ps, ss[i]? = some t → pss[i]? = some ps → RowW t ps i) :
    Calls Tryz.prog 79 #[.pointer (some ⟨pb, 0, none⟩), .agg #[vf, vt, vr]] w fun e w' => ∃ g vc vs, e = .returned vc ∧ w.heap.size ≤ g ∧ GridAt w' g s pd (shC s (pdv pd) pss) pb B vf vt vr vc ss vs ∧ Below w.heap.size w w' := by
  obtain ⟨i1, hi1, hz10, hz11, hz12⟩ := info_parts info_cell
  obtain ⟨i2, hi2, hz20, hz21, hz22⟩ := info_parts info_cells
  obtain ⟨aof, capf, rfl⟩ := ownsRow_form hsh.rf
  obtain ⟨aot, capt, rfl⟩ := ownsRow_form hsh.rt
  obtain ⟨aor, capr, rfl⟩ := ownsRow_form hsh.rr
  have HR := hide hR
  have Hsh := hide hsh
  have Hrow := hide hrow
  have hpdl : (pdv pd).length = pd.length := by simp [pdv]
  have Hlen := hide hlen
  have hs8 : ss.length ≤ 8 := by omega
  have Hst : Hid (WkSt w ((w.alloc (.cells #[.slice aof pd.length capf, .slice aot pd.length capt, .slice aor ss.length capr] 129)).alloc (.cells #[.pointer (some ⟨pb, 0, none⟩), .slice aof pd.length capf, .slice aot pd.length capt, .slice aor ss.length capr, .slice none 0 0] 136)) s pd [] pb B (.slice aof pd.length capf) (.slice aot pd.length capt) (.slice aor ss.length capr) (.slice none 0 0) ss []) := by
    have hb : Below w.heap.size w ((w.alloc (.cells #[.slice aof pd.length capf, .slice aot pd.length capt, .slice aor ss.length capr] 129)).alloc (.cells #[.pointer (some ⟨pb, 0, none⟩), .slice aof pd.length capf, .slice aot pd.length capt, .slice aor ss.length capr, .slice none 0 0] 136)) := ((Below.refl _ _).alloc (Nat.le_refl _) _).alloc (by simp) _
    refine ⟨(Blk.new _ _ _).alloc _, ⟨?_, ⟨B', hR.kept hb⟩, hsh.kept hb, CellsAt.nil _ _, by simp, ⟨hp4, by simp⟩, by simp⟩, hb⟩
    have := Blk.new (w.alloc (.cells #[.slice aof pd.length capf, .slice aot pd.length capt, .slice aor ss.length capr] 129)) #[.pointer (some ⟨pb, 0, none⟩), .slice aof pd.length capf, .slice aot pd.length capt, .slice aor ss.length capr, .slice none 0 0] 136
    simpa using this
  clear hR hsh hrow hlen
  go_enter Tryz.func79, Tryz.ntmps79
  go_wp2_with fail
  go_loopg [6] ss.length (fun m i wr => ∃ j : Nat, ∃ cells vc vs, j ≤ ss.length ∧ m = ss.length - j ∧ i = .int .i64 j ∧ Hid (cells = shC s (pdv pd) (pss.take j)) ∧ Hid (WkSt w wr s pd cells pb B (.slice aof pd.length capf) (.slice aot pd.length capt) (.slice aor ss.length capr) vc ss vs))
  case atStart => exact ⟨0, [], .slice none 0 0, [], by omega, rfl, rfl, rfl, unhide Hst⟩
  case round =>
    obtain ⟨j, cells, vc, vs, hj, rfl, rfl, Hcs, Hw⟩ := hrel
    have hszw := (unhide Hw).bel.size
    obtain ⟨g0, g1, g2, g3, g4⟩ := five_cells (unhide Hw).gr.blk
    have b0 := (unhide Hw).sb.cell 0
    have b2 := (unhide Hw).sb.cell 2
    have gl := (unhide Hw).gr.blk.lt
    simp only [List.getElem?_toArray, List.getElem?_cons_zero, List.getElem?_cons_succ] at b0 b2
    by_cases hlt : j < ss.length
    · obtain ⟨t, ht⟩ : ∃ t, ss[j]? = some t := ⟨ss[j], List.getElem?_eq_getElem hlt⟩
      obtain ⟨ps, hps⟩ : ∃ ps, pss[j]? = some ps := ⟨pss[j]'(by have := unhide Hlen; omega), List.getElem?_eq_getElem _⟩
      have hrw := unhide Hrow j t ps ht hps
      have hcl : cells.length = j := by rw [unhide Hcs, shC_len, List.length_take]; have := unhide Hlen; omega
      have Hsn : Hid (∀ row, row = rowP s (pdv pd) cells ps pd.length → cells ++ [row] = shC s (pdv pd) (pss.take (j + 1))) := by
        intro row hr
        rw [shC_snoc hps, ← unhide Hcs, hr, hpdl]
      have Hwo : Hid (∀ (k : Nat) (wx : World), Grd wx (w.heap.size + 1) s pd cells → k < pd.length → Calls Tryz.prog 118 #[.pointer (some ⟨w.heap.size + 1, 0, none⟩), .string t, .int .i64 (k : Int)] wx fun e w' => ∃ c : Cl, e = .returned (clV c) ∧ c = cel (opE s (pdv pd) cells k) ps ∧ ClOk c ∧ Below wx.heap.size wx w') := by
        intro k wx hg hk
        obtain ⟨n, hwf⟩ := hrw.wf
        refine (worth_any n t ps _ k s pd cells wx hrw.sz hwf hg hk (by rw [hcl]; exact hrw.old)).mono ?_
        rintro e w1 ⟨c, rfl, hv, hok, hb⟩
        exact ⟨c, rfl, (cel_val hv).symm, hok, hb⟩
      obtain ⟨gr, _, e1, hgr, hgr'⟩ := ownsRow_some (unhide Hsh).rr (by omega)
      simp only [Value.slice.injEq, true_and] at e1
      obtain ⟨rfl, rfl⟩ := e1
      have Ht : Hid (w.cell? ⟨gr, j, none⟩ = some (.string t)) := ownsRow_cell (unhide Hsh).rr (j := j) (u := .string t) (by rw [List.getElem?_map, ht]; rfl)
      clear ht hps hrw
      go_wp2_with fail
      obtain ⟨W1, hW1⟩ : ∃ W1, wr = W1 := ⟨_, rfl⟩
      rw [hW1] at Hw g0 g1 g2 g3 g4 b0 b2 gl hszw ⊢
      clear hW1
      go_loopg [7, 8] pd.length (fun m v i wx => ∃ k : Nat, k ≤ pd.length ∧ m = pd.length - k ∧ i = .int .i64 k ∧ Hid (wx.ownsRow W1.heap.size 139 2 v k (cellsC (rowP s (pdv pd) cells ps k))) ∧ Hid (∀ c ∈ rowP s (pdv pd) cells ps k, ClOk c) ∧ Hid (Below W1.heap.size W1 wx))
      case atStart => exact ⟨0, by omega, rfl, rfl, World.ownsRow_nil _ _ _ _, (fun c hc => by simp [rowP] at hc), Below.refl _ _⟩
      case round =>
        obtain ⟨k, hk, rfl, rfl, Hrw, Hok, Hbx⟩ := hrel
        obtain ⟨aov, capv, hvv⟩ := ownsRow_form (unhide Hrw)
        subst hvv
        have hszx := (unhide Hbx).size
        have b0' := kept_cell' (unhide Hbx) b0
        have b2' := kept_cell' (unhide Hbx) b2
        have g4' := kept_cell' (unhide Hbx) g4
        have hbw : Below w.heap.size w wr := (unhide Hw).bel.then' hszw (unhide Hbx)
        have ht' := hbw.cell (p := ⟨gr, j, none⟩) hgr'
        rw [unhide Ht] at ht'
        have hglx : w.heap.size + 1 < wr.heap.size := by omega
        have hgrx : gr < wr.heap.size := by omega
        have HWx := hide ((unhide Hw).kept (unhide Hbx))
        have z4' := (unhide HWx).gr.blk.frozen 4
        clear hbw
        by_cases hlk : k < pd.length
        · go_wp2_with fail
          refine (unhide Hwo k _ ⟨_, _, _, _, _, _, _, _, (unhide HWx).gr⟩ hlk).mono ?_
          rintro e w2 ⟨c, rfl, hc, hok, hb2⟩
          have Hc := hide hc
          have Hok2 := hide hok
          have Hrw2 := hide (ownsRow_below (unhide Hrw) hb2)
          have Hb2 := hide ((unhide Hbx).then' hszx hb2)
          have hsz2 := hb2.size
          obtain ⟨c1, c2⟩ := c
          unfold clV
          simp only
          clear hb2 hok hc
          go_wp2_with (first
            | (at_builtin; refine wpList_append_own _ rfl (.tmp 36) (.tmp 38) 141 rfl W1.heap.size 139 i1 (.agg #[.int .i64 0, .int .u8 0]) 2 16 Tryz.underlying141 hi1 hz10 hz11 hz12 rfl (by decide) (.slice aov k capv) k _ rfl (((unhide Hrw2).alloc _).alloc _) ⟨w2.heap.size + 1, 0, none⟩ 1 1 [.int .i64 c1, .int .u8 c2] rfl rfl (cell_two_new' _ _ (by simp) _ _ _) (fun x hx => by simp at hx; rcases hx with rfl | rfl <;> rfl) (by unfold maxLen; omega) (by omega) (by simp; omega) ?_; intro vq' w5 hown5 hgr5 _))
          have Hrw5 : Hid (w5.ownsRow W1.heap.size 139 2 vq' (k + 1) (cellsC (rowP s (pdv pd) cells ps (k + 1)))) := by
            show World.ownsRow _ _ _ _ _ _ _
            rw [rowP_snoc, ← unhide Hc, cellsC_snoc]
            exact hown5
          have Hok5 : Hid (∀ c ∈ rowP s (pdv pd) cells ps (k + 1), ClOk c) := by
            intro c hc
            rw [rowP_snoc, ← unhide Hc] at hc
            simp at hc
            rcases hc with hc | rfl
            · exact unhide Hok c hc
            · exact unhide Hok2
          have Hb5 : Hid (Below W1.heap.size W1 w5) := (((unhide Hb2).alloc (by omega) _).alloc (by simp; omega) _).grown hgr5 (by simp; omega) (fun g hg => ((unhide Hrw2).lt g hg).1)
          clear hown5 hgr5
          go_wp2_with fail
          go_roundg (pd.length - (k + 1))
          case measure => omega
          case rel => exact ⟨k + 1, by omega, rfl, by go_num, unhide Hrw5, unhide Hok5, unhide Hb5⟩
        · obtain rfl : k = pd.length := by omega
          obtain ⟨aoc, capc, hvc⟩ := ownsRow_form (unhide HWx).gr.cs.own
          have hvl : vs.length = j := by rw [(unhide HWx).gr.cs.len, hcl]
          rw [hvl] at hvc
          subst hvc
          have hwl := rowP_len s (pdv pd) cells ps pd.length
          go_wp2_with (first
            | (at_builtin; refine wpList_append_own _ rfl (.tmp 44) (.tmp 46) 134 rfl (w.heap.size + 2) 141 i2 (.slice none 0 0) 1 24 Tryz.underlying134 hi2 hz20 hz21 hz22 rfl (by decide) (.slice aoc j capc) j _ rfl (by have := (unhide HWx).gr.cs.own.alloc (.cells #[.slice aov pd.length capv] 141); rw [hvl] at this; exact this) ⟨wr.heap.size, 0, none⟩ 1 1 [.slice aov pd.length capv] rfl rfl (cell_one_new _ _ _) (fun x hx => by simp at hx; subst hx; rfl) (by unfold maxLen; omega) (by omega) (by simp; omega) ?_; intro vq' w5 hown5 hgr5 _; obtain ⟨gf, cf, rfl, hgf, hgf'⟩ := ownsRow_some hown5 (Nat.succ_pos _); have hbk : Blk w5 (w.heap.size + 1) #[.pointer (some ⟨pb, 0, none⟩), .slice aof pd.length capf, .slice aot pd.length capt, .slice (some ⟨gr, 0, none⟩) ss.length capr, .slice aoc j capc] 136 := ((unhide HWx).gr.blk.alloc _).grown hgr5 (fun e => by have := ((unhide HWx).gr.cs.own.lt _ e.symm).1; omega); have y4 := (five_cells hbk).2.2.2.2; have yz := hbk.frozen 4; have yl := hbk.lt; clear hbk))
          have HW5 := hide ((unhide HWx).push (unhide HR) (unhide Hsh) (row := rowP s (pdv pd) cells ps pd.length) (by rw [hwl]; exact own_down (unhide Hrw) (by omega)) (by rw [hvl]; exact hown5) hgr5 hwl (by omega) (unhide Hok))
          have Hcs5 := hide (unhide Hsn _ rfl)
          clear hown5 hgr5
          go_wp2_with fail
          go_roundg (ss.length - (j + 1))
          case measure => omega
          case rel => exact ⟨j + 1, _, _, _, by omega, rfl, by go_num, unhide Hcs5, unhide HW5⟩
    · obtain rfl : j = ss.length := by omega
      have Hfin : Hid (cells = shC s (pdv pd) pss) := by show _ = _; rw [unhide Hcs, unhide Hlen, List.take_length]
      obtain ⟨aoc, capc, hvc⟩ := ownsRow_form (unhide Hw).gr.cs.own
      subst hvc
      go_wp2_with fail
      go_ret
      rw [← unhide Hfin]
      exact ⟨w.heap.size + 1, _, _, rfl, by omega, (unhide Hw).gr, (unhide Hw).bel⟩
end Go.Proofs.YtdchbenfccofpaaGreatDoor
