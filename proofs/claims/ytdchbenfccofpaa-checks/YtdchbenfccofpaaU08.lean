/- Walks of the document's answer: Read. -/
import Derived.Test.YtdchbenfccofpaaU04
import Derived.Test.YtdchbenfccofpaaU07
import Derived.Test.YtdchbenfccofpaaU01
namespace Go.Proofs.Ytdchbenfccofpaa
open Go.RowKit Db

theorem refRead_long (s : ByteArray) (w : World) (hs : 200 < s.size) (hm : s.size ≤ maxLen) :
    Calls Try.prog 7 #[.string s] w fun e w' => e = .returned (.tuple #[.agg #[.slice none 0 0, .slice none 0 0, .slice none 0 0], .int .i64 1, .int .i64 0]) ∧ Below w.heap.size w w' := by
  unfold maxLen at hm
  go_enter Try.func7, Try.ntmps7
  go_wp2_with fail
  refine bodyPost_ret (v := .tuple #[.agg #[.slice none 0 0, .slice none 0 0, .slice none 0 0], .int .i64 1, .int .i64 0]) (by simp [results, Try.results7, go_sem]) rfl ⟨rfl, ?_⟩
  exact (Below.refl _ _).alloc (Nat.le_refl _) _

set_option maxRecDepth 100000 in
set_option maxHeartbeats 1000000 in
theorem refRead_form (s : ByteArray) (w : World) (hs : s.size ≤ 200) (hp : 0 ≤ plc 0 0 0 0 (L s)) :
    Calls Try.prog 7 #[.string s] w fun e w' => e = .returned (.tuple #[.agg #[.slice none 0 0, .slice none 0 0, .slice none 0 0], .int .i64 2, .int .i64 (plc 0 0 0 0 (L s))]) ∧ Below w.heap.size w w' := by
  obtain ⟨p, hpp⟩ : ∃ p, plc 0 0 0 0 (L s) = p := ⟨_, rfl⟩
  rw [hpp] at hp ⊢
  have Hpp := hide hpp
  clear hpp
  go_enter Try.func7, Try.ntmps7
  go_wp2_with fail
  refine (place_any s _ hs).mono ?_
  rintro e w1 ⟨rfl, hb⟩
  rw [unhide Hpp]
  have HB0 : Hid (Blk w1 w.heap.size #[.slice none 0 0, .slice none 0 0, .slice none 0 0] 35) := (Blk.new _ _ _).kept hb
  have f0 := (unhide HB0).cell 0
  have f1 := (unhide HB0).cell 1
  have f2 := (unhide HB0).cell 2
  have z0 := (unhide HB0).frozen 0
  have z1 := (unhide HB0).frozen 1
  have z2 := (unhide HB0).frozen 2
  simp only [List.getElem?_toArray, List.getElem?_cons_zero, List.getElem?_cons_succ] at f0 f1 f2
  have Hb := hide hb
  clear hb
  go_wp2_with fail
  refine bodyPost_ret (v := .tuple #[.agg #[.slice none 0 0, .slice none 0 0, .slice none 0 0], .int .i64 2, .int .i64 p]) (by simp [results, Try.results7, go_sem, f0, f1, f2]) rfl ⟨rfl, ?_⟩
  exact (((((Below.refl _ _).alloc (Nat.le_refl _) _).then' (by simp) (unhide Hb)).setCell (by simp) _).setCell (by simp) _).setCell (by simp) _

/-- The sheet, as it is read: the values and where they lie. -/
structure SheetAt (w : World) (B : Nat) (vf vt vr : Value) (pd : List (List UInt8 × List UInt8)) (ss : List ByteArray) : Prop where
  rf : w.ownsRow B 3 1 vf pd.length (pd.map (fun p => .int .i64 (val p.1)))
  rt : w.ownsRow B 3 1 vt pd.length (pd.map (fun p => .int .i64 (val p.2)))
  rr : w.ownsRow B 9 1 vr ss.length (ss.map Value.string)

theorem SheetAt.drewN {w : World} {B : Nat} {vf vt vr : Value} {pd : List (List UInt8 × List UInt8)} {ss : List ByteArray} (h : SheetAt w B vf vt vr pd ss) (n : Nat) : SheetAt (w.drewN n) B vf vt vr pd ss := ⟨h.rf, h.rt, h.rr⟩
theorem SheetAt.kept {w w' : World} {B : Nat} {vf vt vr : Value} {pd : List (List UInt8 × List UInt8)} {ss : List ByteArray} (h : SheetAt w B vf vt vr pd ss) (hb : Below w.heap.size w w') : SheetAt w' B vf vt vr pd ss := ⟨ownsRow_below h.rf hb, ownsRow_below h.rt hb, ownsRow_below h.rr hb⟩
theorem SheetAt.alloc {w : World} {B : Nat} {vf vt vr : Value} {pd : List (List UInt8 × List UInt8)} {ss : List ByteArray} (h : SheetAt w B vf vt vr pd ss) (o : Obj) : SheetAt (w.alloc o) B vf vt vr pd ss := ⟨h.rf.alloc o, h.rt.alloc o, h.rr.alloc o⟩

/-- What Read answers to a report by its form. -/
def ReadR (w : World) (pd : List (List UInt8 × List UInt8)) (rows : List (List UInt8)) (pss : List (List Pt)) (e : Ending) (w' : World) : Prop :=
  ∃ a1 n1 c1 a2 n2 c2 a3 n3 c3 er pl, e = .returned (.tuple #[.agg #[.slice a1 n1 c1, .slice a2 n2 c2, .slice a3 n3 c3], .int .i64 er, .int .i64 pl]) ∧ outc (pdv pd) pss = (er, pl) ∧ Below w.heap.size w w' ∧
    (er = 0 → ∃ ss : List ByteArray, ss.map L = rows ∧ SheetAt w' w.heap.size (.slice a1 n1 c1) (.slice a2 n2 c2) (.slice a3 n3 c3) pd ss)

set_option maxRecDepth 100000 in
set_option maxHeartbeats 4000000 in
theorem refRead_ok (s : ByteArray) (w : World) (hs : s.size ≤ 200) (pd : List (List UInt8 × List UInt8)) (rows : List (List UInt8)) (pss : List (List Pt)) (hf : Db.Form (L s) pd rows pss) :
    Calls Try.prog 7 #[.string s] w fun e w' => ReadR w pd rows pss e w' := by
  obtain ⟨hplc, hsht, hlen, hrow⟩ := hf
  obtain ⟨ii, hi, hz0, hz1, hz2⟩ := info_parts info_int
  have Hplc := hide hplc
  have Hsht := hide hsht
  have Hlen := hide hlen
  have Hrow := hide hrow
  clear hplc hsht hlen hrow
  go_enter Try.func7, Try.ntmps7
  go_wp2_with fail
  refine (place_any s _ hs).mono ?_
  rintro e w1 ⟨rfl, hb1⟩
  rw [unhide Hplc]
  have HB1 : Hid (Blk w1 w.heap.size #[.slice none 0 0, .slice none 0 0, .slice none 0 0] 35) := (Blk.new _ _ _).kept hb1
  have Hb1 := hide hb1
  have hsz1 := hb1.size
  simp at hsz1
  clear hb1
  go_wp2_with fail
  refine (read_any s _ hs pd rows (unhide Hsht)).mono ?_
  rintro e w2 ⟨vf, vt, vr, ss, rfl, hss, hrf, hrt, hrr, hb2⟩
  have hsl : ss.length = rows.length := by have := congrArg List.length hss; simpa using this
  obtain ⟨aof, capf, rfl⟩ := ownsRow_form hrf
  obtain ⟨aot, capt, rfl⟩ := ownsRow_form hrt
  obtain ⟨aor, capr, rfl⟩ := ownsRow_form hrr
  have HS : Hid (SheetAt w2 w1.heap.size _ _ _ pd ss) := ⟨hrf, hrt, hrr⟩
  have HB2 := hide ((unhide HB1).kept hb2)
  have Hb2 := hide hb2
  have hsz2 := hb2.size
  have Hss := hide hss
  have hpdl : pd.length ≤ maxLen := by
    rcases hrf.2 with ⟨_, h0⟩ | ⟨g, cap, cur, h1, h2, h3, h4, h5, _⟩
    · simp [h0]
    · omega
  have hrl : ss.length ≤ maxLen := by
    rcases hrr.2 with ⟨_, h0⟩ | ⟨g, cap, cur, h1, h2, h3, h4, h5, _⟩
    · simp [h0]
    · omega
  unfold maxLen at hpdl hrl
  clear hss hrf hrt hrr hb2 HB1
  have g0 := (unhide HB2).cell 0
  have g1 := (unhide HB2).cell 1
  have g2 := (unhide HB2).cell 2
  have z0 := (unhide HB2).frozen 0
  have z1 := (unhide HB2).frozen 1
  have z2 := (unhide HB2).frozen 2
  simp only [List.getElem?_toArray, List.getElem?_cons_zero, List.getElem?_cons_succ] at g0 g1 g2
  have hlt2 := (unhide HB2).lt
  have Hsl := hide hsl
  clear hsl
  have d200 : decide ((200 : Int) < (s.size : Int)) = false := by simp; omega
  have Hb : Hid (Below w.heap.size w w2) := (((Below.refl _ _).alloc (Nat.le_refl _) _).then' (by simp) (unhide Hb1)).then' (by omega) (unhide Hb2)
  have Hpl : Hid (pss.length = ss.length) := by show _ = _; rw [unhide Hsl, unhide Hlen]
  by_cases h4 : 4 < pd.length
  · have Ho : Hid (outc (pdv pd) pss = (3, 0)) := by show _ = _; unfold outc; rw [if_pos (.inl (by simpa [pdv] using h4))]
    have d4 : decide ((4 : Int) < (pd.length : Int)) = true := by simp; omega
    go_wp2_with fail
    refine bodyPost_ret (v := .tuple #[.agg #[.slice none 0 0, .slice none 0 0, .slice none 0 0], .int .i64 3, .int .i64 0]) (by simp [results, Try.results7, go_sem, g0, g1, g2, hlt2]) rfl ⟨_, _, _, _, _, _, _, _, _, 3, 0, rfl, unhide Ho, ?_, fun h => by omega⟩
    (repeat (first | refine Below.setCell ?_ (by simp) _ | refine Below.alloc ?_ (by first | omega | (simp [World.setCell]; omega)) _ | exact unhide Hb | refine Below.drewN ?_ _))
  have d4 : decide ((4 : Int) < (pd.length : Int)) = false := by simp; omega
  by_cases h8 : 8 < ss.length
  · have Ho : Hid (outc (pdv pd) pss = (3, 0)) := by show _ = _; unfold outc; rw [if_pos (.inr (by rw [unhide Hpl]; exact h8))]
    have d8 : decide ((8 : Int) < (ss.length : Int)) = true := by simp; omega
    go_wp2_with fail
    refine bodyPost_ret (v := .tuple #[.agg #[.slice none 0 0, .slice none 0 0, .slice none 0 0], .int .i64 3, .int .i64 0]) (by simp [results, Try.results7, go_sem, g0, g1, g2, hlt2]) rfl ⟨_, _, _, _, _, _, _, _, _, 3, 0, rfl, unhide Ho, ?_, fun h => by omega⟩
    (repeat (first | refine Below.setCell ?_ (by simp) _ | refine Below.alloc ?_ (by first | omega | (simp [World.setCell]; omega)) _ | exact unhide Hb | refine Below.drewN ?_ _))
  have d8 : decide ((8 : Int) < (ss.length : Int)) = false := by simp; omega
  have Hsm : Hid (¬ (4 < (pdv pd).length ∨ 8 < pss.length)) := by show ¬ _; rw [unhide Hpl]; simp [pdv]; omega
  go_wp2_with fail
  go_loopw [7] (fun i wr => ∃ k n : Nat, k ≤ pd.length ∧ i = .int .i64 k ∧ wr = (w2.alloc (.cells #[.slice aof pd.length capf, .slice aot pd.length capt, .slice aor ss.length capr] 35)).drewN n ∧
      Hid (badP k ((pdv pd).drop k) = badP 0 (pdv pd))) (fun i _ => pd.length - (intOf i).toNat)
  case atStart => exact ⟨0, 0, by omega, rfl, rfl, rfl⟩
  case round =>
    obtain ⟨k, n, hk, rfl, rfl, Hbp⟩ := hrel
    by_cases hlt : k < pd.length
    · obtain ⟨pk, hpk⟩ : ∃ pk, pd[k]? = some pk := ⟨pd[k], List.getElem?_eq_getElem hlt⟩
      have hpv : (pdv pd)[k]? = some (val pk.1, val pk.2) := by simp [pdv, hpk]
      have Hst := hide (badP_step hpv)
      obtain ⟨gf, _, e1, hgf, hgf'⟩ := ownsRow_some (unhide HS).rf (by omega)
      obtain ⟨gt, _, e2, hgt, hgt'⟩ := ownsRow_some (unhide HS).rt (by omega)
      simp only [Value.slice.injEq, true_and] at e1 e2
      obtain ⟨rfl, rfl⟩ := e1
      obtain ⟨rfl, rfl⟩ := e2
      have c1 := ownsRow_cell (unhide HS).rf (j := k) (u := .int .i64 (val pk.1)) (by simp [hpk])
      have c2 := ownsRow_cell (unhide HS).rt (j := k) (u := .int .i64 (val pk.2)) (by simp [hpk])
      obtain ⟨x1, hx1⟩ : ∃ x1, val pk.1 = x1 := ⟨_, rfl⟩
      obtain ⟨x2, hx2⟩ : ∃ x2, val pk.2 = x2 := ⟨_, rfl⟩
      rw [hx1] at c1
      rw [hx2] at c2
      have Hst' : Hid (badP k ((pdv pd).drop k) = if x2 < x1 then (k : Int) else badP ((k + 1 : Nat) : Int) ((pdv pd).drop (k + 1))) := by show _ = _; rw [unhide Hst, hx1, hx2]
      clear hpv hpk hx1 hx2 Hst
      by_cases hbad : x2 < x1
      · have Ho : Hid (outc (pdv pd) pss = (4, (k : Int))) := by
          show _ = _
          have : badP 0 (pdv pd) = k := by rw [← unhide Hbp, unhide Hst', if_pos hbad]
          unfold outc; rw [if_neg (unhide Hsm), this, if_pos (by omega)]
        go_wp2_with fail
        go_quiet (fail)
        go_wp2_with fail
        refine bodyPost_ret (v := .tuple #[.agg #[.slice none 0 0, .slice none 0 0, .slice none 0 0], .int .i64 4, .int .i64 k]) (by simp [results, Try.results7, go_sem, g0, g1, g2, hlt2]) rfl ⟨_, _, _, _, _, _, _, _, _, 4, k, rfl, unhide Ho, ?_, fun h => by omega⟩
        (repeat (first | refine Below.setCell ?_ (by simp) _ | refine Below.alloc ?_ (by first | omega | (simp [World.setCell]; omega)) _ | exact unhide Hb | refine Below.drewN ?_ _))
      · have Hst2 : Hid (badP k ((pdv pd).drop k) = badP ((k + 1 : Nat) : Int) ((pdv pd).drop (k + 1))) := by show _ = _; rw [unhide Hst', if_neg hbad]
        go_wp2_with fail
        go_quiet (fail)
        go_wp2_with fail
        go_roundw
        case rel => exact ⟨k + 1, _, by omega, by go_num, rfl, by show _ = _; rw [← unhide Hbp, unhide Hst2]⟩
        case measure => simp [intOf]; omega
    · obtain rfl : k = pd.length := by omega
      have Hp0 : Hid (badP 0 (pdv pd) < 0) := by
        show _ < _
        rw [← unhide Hbp, List.drop_eq_nil_of_le (by simp [pdv])]
        exact (by decide : (-1 : Int) < 0)
      clear Hbp hk hlt
      go_wp2_with fail
      go_loopw [8] (fun i wr => ∃ k m : Nat, k ≤ ss.length ∧ i = .int .i64 k ∧ wr = (w2.alloc (.cells #[.slice aof pd.length capf, .slice aot pd.length capt, .slice aor ss.length capr] 35)).drewN m ∧
          Hid (badN k (pss.drop k) = badN 0 pss)) (fun i _ => ss.length - (intOf i).toNat)
      case atStart => exact ⟨0, _, by omega, rfl, rfl, rfl⟩
      case round =>
        obtain ⟨k, m, hk, rfl, rfl, Hbn⟩ := hrel
        by_cases hlt : k < ss.length
        · obtain ⟨sk, hsk⟩ : ∃ sk, ss[k]? = some sk := ⟨ss[k], List.getElem?_eq_getElem hlt⟩
          obtain ⟨pk, hpk⟩ : ∃ pk, pss[k]? = some pk := ⟨pss[k]'(by rw [unhide Hpl]; exact hlt), List.getElem?_eq_getElem _⟩
          have hro := unhide Hrow k (L sk) pk (by rw [← unhide Hss]; simp [hsk]) hpk
          have hskz : sk.size ≤ 200 := by rw [← L_length]; exact hro.len
          have Hst := hide (badN_step hpk)
          obtain ⟨gr, _, e1, hgr, hgr'⟩ := ownsRow_some (unhide HS).rr (by omega)
          simp only [Value.slice.injEq, true_and] at e1
          obtain ⟨rfl, rfl⟩ := e1
          have c1 := ownsRow_cell (unhide HS).rr (j := k) (u := .string sk) (by simp [hsk])
          have Hro := hide hro
          clear hsk hpk hro
          go_wp2_with fail
          refine (reaches_any sk k _ hskz (unhide Hro).old).mono ?_
          rintro e w' ⟨rfl, rfl⟩
          rw [(unhide Hro).rch]
          cases hnb : nameB k pk with
          | true =>
            have Ho : Hid (outc (pdv pd) pss = (5, (k : Int))) := by
              show _ = _
              have : badN 0 pss = k := by rw [← unhide Hbn, unhide Hst, hnb]; rfl
              unfold outc; rw [if_neg (unhide Hsm), if_neg (by have := unhide Hp0; omega), this, if_pos (by omega)]
            clear hnb
            go_wp2_with fail
            refine bodyPost_ret (v := .tuple #[.agg #[.slice none 0 0, .slice none 0 0, .slice none 0 0], .int .i64 5, .int .i64 k]) (by simp [results, Try.results7, go_sem, g0, g1, g2, hlt2]) rfl ⟨_, _, _, _, _, _, _, _, _, 5, k, rfl, unhide Ho, ?_, fun h => by omega⟩
            (repeat (first | refine Below.setCell ?_ (by simp) _ | refine Below.alloc ?_ (by first | omega | (simp [World.setCell]; omega)) _ | exact unhide Hb | refine Below.drewN ?_ _))
          | false =>
            have Hst2 : Hid (badN k (pss.drop k) = badN ((k + 1 : Nat) : Int) (pss.drop (k + 1))) := by show _ = _; rw [unhide Hst, hnb]; rfl
            clear hnb
            go_wp2_with fail
            go_roundw
            case rel => exact ⟨k + 1, _, by omega, by go_num, rfl, by show _ = _; rw [← unhide Hbn, unhide Hst2]⟩
            case measure => simp [intOf]; omega
        · obtain rfl : k = ss.length := by omega
          have Hn0 : Hid (badN 0 pss < 0) := by
            show _ < _
            rw [← unhide Hbn, List.drop_eq_nil_of_le (by rw [unhide Hpl]; exact Nat.le_refl _)]
            exact (by decide : (-1 : Int) < 0)
          clear Hbn hk hlt
          go_wp2_with fail
          go_loopw [10, 11] (fun vk i wr => ∃ k : Nat, ∃ kinds : List Int, k ≤ ss.length ∧ i = .int .i64 k ∧ Hid (kinds.length = k) ∧ Hid (∀ x ∈ kinds, 0 ≤ x ∧ x ≤ 2) ∧ Hid (badK k kinds (pss.drop k) = badK 0 [] pss) ∧
              Hid (wr.ownsRow (w2.heap.size + 1) 3 1 vk k (kinds.map (.int .i64))) ∧ Hid (Below (w2.heap.size + 1) (w2.alloc (.cells #[.slice aof pd.length capf, .slice aot pd.length capt, .slice aor ss.length capr] 35)) wr)) (fun _ i _ => ss.length - (intOf i).toNat)
          case atStart => exact ⟨0, [], by omega, rfl, rfl, by simp [Hid], rfl, World.ownsRow_nil _ _ _ _, by exact (Below.refl _ _).drewN _⟩
          case round =>
            obtain ⟨k, kinds, hk, rfl, Hkl, Hkb, Hbk, Hkr, Hbel⟩ := hrel
            obtain ⟨aok, capk, hvk⟩ := ownsRow_form (unhide Hkr)
            subst hvk
            have HBs : Hid (Blk wr w2.heap.size #[.slice aof pd.length capf, .slice aot pd.length capt, .slice aor ss.length capr] 35) := (Blk.new _ _ _).below (unhide Hbel) (by omega)
            have HB0 : Hid (Blk wr w.heap.size #[.slice none 0 0, .slice none 0 0, .slice none 0 0] 35) := ((unhide HB2).alloc _).below (unhide Hbel) (by omega)
            have HSr : Hid (SheetAt wr w1.heap.size (.slice aof pd.length capf) (.slice aot pd.length capt) (.slice aor ss.length capr) pd ss) := ((unhide HS).alloc _).kept (by have := unhide Hbel; simpa using this)
            have s0 := (unhide HBs).cell 0
            have s1 := (unhide HBs).cell 1
            have s2 := (unhide HBs).cell 2
            have y0 := (unhide HB0).cell 0
            have y1 := (unhide HB0).cell 1
            have y2 := (unhide HB0).cell 2
            have u0 := (unhide HB0).frozen 0
            have u1 := (unhide HB0).frozen 1
            have u2 := (unhide HB0).frozen 2
            have hlw := (unhide HB0).lt
            simp only [List.getElem?_toArray, List.getElem?_cons_zero, List.getElem?_cons_succ] at s0 s1 s2 y0 y1 y2
            have hszr := (unhide Hbel).size
            simp at hszr
            have Hbw : Hid (Below w.heap.size w wr) := ((unhide Hb).alloc (by omega) _).trans ((unhide Hbel).mono (by omega))
            by_cases hlt : k < ss.length
            · obtain ⟨sk, hsk⟩ : ∃ sk, ss[k]? = some sk := ⟨ss[k], List.getElem?_eq_getElem hlt⟩
              obtain ⟨pk, hpk⟩ : ∃ pk, pss[k]? = some pk := ⟨pss[k]'(by rw [unhide Hpl]; exact hlt), List.getElem?_eq_getElem _⟩
              have hro := unhide Hrow k (L sk) pk (by rw [← unhide Hss]; simp [hsk]) hpk
              have hskz : sk.size ≤ 200 := by rw [← L_length]; exact hro.len
              have Hst := hide (badK_step kinds hpk)
              have hnm := badN_all pss 0 (by omega) (unhide Hn0) k pk hpk
              rw [Int.zero_add] at hnm
              have Hlt := hide (nameB_lt hnm hro.pos kinds.length (by rw [unhide Hkl]))
              obtain ⟨nf, hwf⟩ := hro.wf
              have Hwf := hide hwf
              obtain ⟨gr, _, e1, hgr, hgr'⟩ := ownsRow_some (unhide HSr).rr (by omega)
              simp only [Value.slice.injEq, true_and] at e1
              obtain ⟨rfl, rfl⟩ := e1
              have c1 := ownsRow_cell (unhide HSr).rr (j := k) (u := .string sk) (by simp [hsk])
              have Hkr' : Hid (wr.ownsRow (w2.heap.size + 1) 3 1 (.slice aok k capk) kinds.length (kinds.map (.int .i64))) := by show World.ownsRow _ _ _ _ _ _ _; rw [unhide Hkl]; exact unhide Hkr
              clear hsk hpk hro hnm hwf
              go_wp2_with fail
              refine (kind_any nf sk pk kinds _ (w2.heap.size + 1) _ hskz (unhide Hwf) (unhide Hlt) (unhide Hkb) (by exact unhide Hkr')).mono ?_
              rintro e w' ⟨kk, rfl, hkk, mm, rfl⟩
              have Hkk := hide (kindP_of hkk.2.2)
              have hkk0 := hkk.1
              have hkk2 := hkk.2.1
              clear hkk
              by_cases hz : (kk == 0) = true
              · have Ho : Hid (outc (pdv pd) pss = (6, (k : Int))) := by
                  show _ = _
                  have : badK 0 [] pss = k := by rw [← unhide Hbk, unhide Hst, unhide Hkk, hz]; rfl
                  unfold outc; rw [if_neg (unhide Hsm), if_neg (by have := unhide Hp0; omega), if_neg (by have := unhide Hn0; omega), this, if_pos (by omega)]
                go_wp2_with fail
                refine bodyPost_ret (v := .tuple #[.agg #[.slice none 0 0, .slice none 0 0, .slice none 0 0], .int .i64 6, .int .i64 k]) (by simp [results, Try.results7, go_sem, y0, y1, y2]) rfl ⟨_, _, _, _, _, _, _, _, _, 6, k, rfl, unhide Ho, ?_, fun h => by omega⟩
                (repeat (first | refine Below.setCell ?_ (by simp) _ | exact unhide Hbw | refine Below.drewN ?_ _))
              · have hz' : (kk == 0) = false := by simpa using hz
                have Hst2 : Hid (badK k kinds (pss.drop k) = badK ((k + 1 : Nat) : Int) (kinds ++ [kk]) (pss.drop (k + 1))) := by show _ = _; rw [unhide Hst, unhide Hkk, hz']; rfl
                clear hz
                go_wp2_with (first
                  | (at_builtin; refine wpList_append_own _ rfl _ _ 32 rfl (w2.heap.size + 1) 3 ii (.int .i64 0) 1 8 Try.underlying32 hi hz0 hz1 hz2 rfl (by decide) _ _ _ rfl (World.ownsRow.alloc (by exact unhide Hkr) _) ⟨wr.heap.size, 0, none⟩ 1 1 [.int .i64 kk] rfl rfl (cell_one_new' _ _ rfl _ _) (fun x hx => by simp at hx; subst hx; rfl) (by unfold maxLen; omega) (by omega) (by simp; omega) ?_; intro vk' w5 hown5 hgr5 _))
                have Hown5 := hide hown5
                have Hgr5 := hide hgr5
                clear hown5 hgr5
                go_wp2_with fail
                go_roundw
                case rel =>
                  refine ⟨k + 1, kinds ++ [kk], by omega, by go_num, ?_, ?_, ?_, ?_, ?_⟩
                  · show _ = _
                    simp [unhide Hkl]
                  · intro x hx
                    simp at hx
                    rcases hx with hx | rfl
                    · exact unhide Hkb x hx
                    · exact ⟨hkk0, hkk2⟩
                  · show _ = _
                    rw [← unhide Hbk, unhide Hst2]
                  · show World.ownsRow _ _ _ _ _ _ _
                    simpa using unhide Hown5
                  · exact (((unhide Hbel).drewN _).alloc (by simpa using hszr) _).grown (unhide Hgr5) (by simp; omega) (fun g hg => ((unhide Hkr).lt g hg).1)
                case measure => simp [intOf]; omega
            · obtain rfl : k = ss.length := by omega
              have Ho : Hid (outc (pdv pd) pss = (0, 0)) := by
                show _ = _
                have : badK 0 [] pss = -1 := by rw [← unhide Hbk, List.drop_eq_nil_of_le (by rw [unhide Hpl]; exact Nat.le_refl _)]; rfl
                unfold outc; rw [if_neg (unhide Hsm), if_neg (by have := unhide Hp0; omega), if_neg (by have := unhide Hn0; omega), this, if_neg (by omega)]
              go_wp2_with fail
              refine bodyPost_ret (v := .tuple #[.agg #[.slice aof pd.length capf, .slice aot pd.length capt, .slice aor ss.length capr], .int .i64 0, .int .i64 0]) (by simp [results, Try.results7, go_sem, y0, y1, y2]) rfl ⟨_, _, _, _, _, _, _, _, _, 0, 0, rfl, unhide Ho, ?_, fun _ => ⟨ss, unhide Hss, ?_⟩⟩
              · (repeat (first | refine Below.setCell ?_ (by simp) _ | exact unhide Hbw | refine Below.drewN ?_ _))
              · have hsr := unhide HSr
                refine ⟨?_, ?_, ?_⟩
                · exact ownsRow_base (ownsRow_setCell_below (ownsRow_setCell_below (ownsRow_setCell_below hsr.rf (by simp; omega) _) (by simp; omega) _) (by simp; omega) _) (fun g hg => by have := (hsr.rf.lt g hg).1; omega)
                · exact ownsRow_base (ownsRow_setCell_below (ownsRow_setCell_below (ownsRow_setCell_below hsr.rt (by simp; omega) _) (by simp; omega) _) (by simp; omega) _) (fun g hg => by have := (hsr.rt.lt g hg).1; omega)
                · exact ownsRow_base (ownsRow_setCell_below (ownsRow_setCell_below (ownsRow_setCell_below hsr.rr (by simp; omega) _) (by simp; omega) _) (by simp; omega) _) (fun g hg => by have := (hsr.rr.lt g hg).1; omega)

end Go.Proofs.Ytdchbenfccofpaa
