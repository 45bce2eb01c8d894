/- Own texts of the theorem in YtdchbenfccofpaaGreatDoorWAlY, part 13. -/
import Derived.Test.YtdchbenfccofpaaGreatDoorJ08
import Derived.Test.YtdchbenfccofpaaGreatDoorJ12
import Derived.Test.YtdchbenfccofpaaGreatDoorJ02
import Derived.Test.YtdchbenfccofpaaGreatDoorJ07
import Derived.Test.YtdchbenfccofpaaGreatDoorJ01
import Derived.Deep.LoopGhost
set_option maxRecDepth 100000
set_option maxHeartbeats 4000000
namespace Go.Proofs.YtdchbenfccofpaaGreatDoor
open Go.RowKit Db
theorem refRead_long (s : ByteArray) (w : World) (hs : 200 < s.size) (hm : s.size ≤ maxLen) :
  Calls Tryz.prog 76 #[.string s] w fun e w' => e = .returned (.tuple #[.agg #[.slice none 0 0, .slice none 0 0, .slice none 0 0], .int .i64 1, .int .i64 0]) ∧ Below w.heap.size w w' := by
 unfold maxLen at hm
 go_enter Tryz.func76, Tryz.ntmps76
 go_wp2_with fail
 refine bodyPost_ret (v := .tuple #[.agg #[.slice none 0 0, .slice none 0 0, .slice none 0 0], .int .i64 1, .int .i64 0]) (by simp [results, Tryz.results76, go_sem]) rfl ⟨rfl, ?_⟩
 exact (Below.refl _ _).alloc (Nat.le_refl _) _
theorem refRead_form (s : ByteArray) (w : World) (hs : s.size ≤ 200) (hp : 0 ≤ plc 0 0 0 0 (L s)) :
  Calls Tryz.prog 76 #[.string s] w fun e w' => e = .returned (.tuple #[.agg #[.slice none 0 0, .slice none 0 0, .slice none 0 0], .int .i64 2, .int .i64 (plc 0 0 0 0 (L s))]) ∧ Below w.heap.size w w' := by
 obtain ⟨p, hpp⟩ : ∃ p, plc 0 0 0 0 (L s) = p := ⟨_, rfl⟩
 rw [hpp] at hp ⊢
 have Hpp := hI hpp
 clear hpp
 go_enter Tryz.func76, Tryz.ntmps76
 go_wp2_with fail
 refine (place_any s _ hs).mono ?_
 rintro e w1 ⟨rfl, hb⟩
 rw [Hpp.u]
 have HB0 : Hid (Blk w1 w.heap.size #[.slice none 0 0, .slice none 0 0, .slice none 0 0] 129) := (Blk.new _ _ _).kept hb
 have f0 := HB0.u.cell 0
 have f1 := HB0.u.cell 1
 have f2 := HB0.u.cell 2
 have z0 := HB0.u.frozen 0
 have z1 := HB0.u.frozen 1
 have z2 := HB0.u.frozen 2
 simp only [List.getElem?_toArray, List.getElem?_cons_zero, List.getElem?_cons_succ] at f0 f1 f2
 have Hb := hI hb
 clear hb
 go_wp2_with fail
 refine bodyPost_ret (v := .tuple #[.agg #[.slice none 0 0, .slice none 0 0, .slice none 0 0], .int .i64 2, .int .i64 p]) (by simp [results, Tryz.results76, go_sem, f0, f1, f2]) rfl ⟨rfl, ?_⟩
 exact (((((Below.refl _ _).alloc (Nat.le_refl _) _).then' (by simp) Hb.u).setCell (by simp) _).setCell (by simp) _).setCell (by simp) _
structure SheetAt (w : World) (B : Nat) (vf vt vr : Value) (pd : List (List UInt8 × List UInt8)) (ss : List ByteArray) : Prop where
 rf : w.ownsRow B 3 1 vf pd.length (pd.map (fun p => .int .i64 (val p.1)))
 rt : w.ownsRow B 3 1 vt pd.length (pd.map (fun p => .int .i64 (val p.2)))
 rr : w.ownsRow B 9 1 vr ss.length (ss.map Value.string)
theorem SheetAt.drewN {w : World} {B : Nat} {vf vt vr : Value} {pd : List (List UInt8 × List UInt8)} {ss : List ByteArray} (h : SheetAt w B vf vt vr pd ss) (n : Nat) : SheetAt (w.drewN n) B vf vt vr pd ss := ⟨h.rf, h.rt, h.rr⟩
theorem SheetAt.kept {w w' : World} {B : Nat} {vf vt vr : Value} {pd : List (List UInt8 × List UInt8)} {ss : List ByteArray} (h : SheetAt w B vf vt vr pd ss) (hb : Below w.heap.size w w') : SheetAt w' B vf vt vr pd ss := ⟨oBelow h.rf hb, oBelow h.rt hb, oBelow h.rr hb⟩
theorem SheetAt.alloc {w : World} {B : Nat} {vf vt vr : Value} {pd : List (List UInt8 × List UInt8)} {ss : List ByteArray} (h : SheetAt w B vf vt vr pd ss) (o : Obj) : SheetAt (w.alloc o) B vf vt vr pd ss := ⟨h.rf.alloc o, h.rt.alloc o, h.rr.alloc o⟩
def ReadR (w : World) (pd : List (List UInt8 × List UInt8)) (rows : List (List UInt8)) (pss : List (List Pt)) (e : Ending) (w' : World) : Prop :=
 ∃ a1 n1 c1 a2 n2 c2 a3 n3 c3 er pl, e = .returned (.tuple #[.agg #[.slice a1 n1 c1, .slice a2 n2 c2, .slice a3 n3 c3], .int .i64 er, .int .i64 pl]) ∧ outc (pdv pd) pss = (er, pl) ∧ Below w.heap.size w w' ∧
  (er = 0 → ∃ ss : List ByteArray, ss.map L = rows ∧ SheetAt w' w.heap.size (.slice a1 n1 c1) (.slice a2 n2 c2) (.slice a3 n3 c3) pd ss)
theorem refRead_ok (s : ByteArray) (w : World) (hs : s.size ≤ 200) (pd : List (List UInt8 × List UInt8)) (rows : List (List UInt8)) (pss : List (List Pt)) (hf : Db.Form (L s) pd rows pss) :
   Calls Tryz.prog 76 #[.string s] w fun e w' => ReadR w pd rows pss e w' := by
 obtain ⟨hplc, hsht, hlen, hrow⟩ := hf
 obtain ⟨ii, hi, hz0, hz1, hz2⟩ := info_parts info_int
 have Hplc := hI hplc
 have Hsht := hI hsht
 have Hlen := hI hlen
 have Hrow := hI hrow
 clear hplc hsht hlen hrow
 go_enter Tryz.func76, Tryz.ntmps76
 go_wp2_with fail
 refine (place_any s _ hs).mono ?_
 rintro e w1 ⟨rfl, hb1⟩
 rw [Hplc.u]
 have HB1 : Hid (Blk w1 w.heap.size #[.slice none 0 0, .slice none 0 0, .slice none 0 0] 129) := (Blk.new _ _ _).kept hb1
 have Hb1 := hI hb1
 have hsz1 := hb1.size
 simp at hsz1
 clear hb1
 go_wp2_with fail
 refine (read_any s _ hs pd rows Hsht.u).mono ?_
 rintro e w2 ⟨vf, vt, vr, ss, rfl, hss, hrf, hrt, hrr, hb2⟩
 have hsl : ss.length = rows.length := by have := congrArg List.length hss; simpa using this
 obtain ⟨aof, capf, rfl⟩ := oForm hrf
 obtain ⟨aot, capt, rfl⟩ := oForm hrt
 obtain ⟨aor, capr, rfl⟩ := oForm hrr
 have HS : Hid (SheetAt w2 w1.heap.size _ _ _ pd ss) := ⟨hrf, hrt, hrr⟩
 have HB2 := hI (HB1.u.kept hb2)
 have Hb2 := hI hb2
 have hsz2 := hb2.size
 have Hss := hI hss
 have hpdl : pd.length ≤ maxLen := by
   rcases hrf.2 with ⟨_, h0⟩ | ⟨g, cap, cur, h1, h2, h3, h4, h5, _⟩
   · simp [h0]
   · omega
 have hrl : ss.length ≤ maxLen := by
   rcases hrr.2 with ⟨_, h0⟩ | ⟨g, cap, cur, h1, h2, h3, h4, h5, _⟩
   · simp [h0]
   · omega
 unfold maxLen at hpdl hrl
 clear hss hrf hrt hrr hb2 HB1
 have g0 := HB2.u.cell 0
 have g1 := HB2.u.cell 1
 have g2 := HB2.u.cell 2
 have z0 := HB2.u.frozen 0
 have z1 := HB2.u.frozen 1
 have z2 := HB2.u.frozen 2
 simp only [List.getElem?_toArray, List.getElem?_cons_zero, List.getElem?_cons_succ] at g0 g1 g2
 have hlt2 := HB2.u.lt
 have Hsl := hI hsl
 clear hsl
 have d200 : decide ((200 : Int) < (s.size : Int)) = false := by simp; omega
 have Hb : Hid (Below w.heap.size w w2) := (((Below.refl _ _).alloc (Nat.le_refl _) _).then' (by simp) Hb1.u).then' (by omega) Hb2.u
 have Hpl : Hid (pss.length = ss.length) := by show _ = _; rw [Hsl.u, Hlen.u]
 by_cases h4 : 4 < pd.length
 · have Ho : Hid (outc (pdv pd) pss = (3, 0)) := by show _ = _; unfold outc; rw [if_pos (.inl (by simpa [pdv] using h4))]
   have d4 : decide ((4 : Int) < (pd.length : Int)) = true := by simp; omega
   go_wp2_with fail
   refine bodyPost_ret (v := .tuple #[.agg #[.slice none 0 0, .slice none 0 0, .slice none 0 0], .int .i64 3, .int .i64 0]) (by simp [results, Tryz.results76, go_sem, g0, g1, g2, hlt2]) rfl ⟨_, _, _, _, _, _, _, _, _, 3, 0, rfl, Ho.u, ?_, fun h => by omega⟩
   (repeat (first | refine Below.setCell ?_ (by simp) _ | refine Below.alloc ?_ (by first | omega | (simp [World.setCell]; omega)) _ | exact Hb.u | refine Below.drewN ?_ _))
 have d4 : decide ((4 : Int) < (pd.length : Int)) = false := by simp; omega
 by_cases h8 : 8 < ss.length
 · have Ho : Hid (outc (pdv pd) pss = (3, 0)) := by show _ = _; unfold outc; rw [if_pos (.inr (by rw [Hpl.u]; exact h8))]
   have d8 : decide ((8 : Int) < (ss.length : Int)) = true := by simp; omega
   go_wp2_with fail
   refine bodyPost_ret (v := .tuple #[.agg #[.slice none 0 0, .slice none 0 0, .slice none 0 0], .int .i64 3, .int .i64 0]) (by simp [results, Tryz.results76, go_sem, g0, g1, g2, hlt2]) rfl ⟨_, _, _, _, _, _, _, _, _, 3, 0, rfl, Ho.u, ?_, fun h => by omega⟩
   (repeat (first | refine Below.setCell ?_ (by simp) _ | refine Below.alloc ?_ (by first | omega | (simp [World.setCell]; omega)) _ | exact Hb.u | refine Below.drewN ?_ _))
 have d8 : decide ((8 : Int) < (ss.length : Int)) = false := by simp; omega
 have Hsm : Hid (¬ (4 < (pdv pd).length ∨ 8 < pss.length)) := by show ¬ _; rw [Hpl.u]; simp [pdv]; omega
 go_wp2_with fail
 go_loopw [7] (fun i wr => ∃ k n : Nat, k ≤ pd.length ∧ i = .int .i64 k ∧ wr = (w2.alloc (.cells #[.slice aof pd.length capf, .slice aot pd.length capt, .slice aor ss.length capr] 129)).drewN n ∧
     Hid (badP k ((pdv pd).drop k) = badP 0 (pdv pd))) (fun i _ => pd.length - (intOf i).toNat)
 case atStart => exact ⟨0, 0, by omega, rfl, rfl, rfl⟩
 case round =>
   obtain ⟨k, n, hk, rfl, rfl, Hbp⟩ := hrel
   by_cases hlt : k < pd.length
   · obtain ⟨pk, hpk⟩ : ∃ pk, pd[k]? = some pk := ⟨pd[k], List.getElem?_eq_getElem hlt⟩
     have hpv : (pdv pd)[k]? = some (val pk.1, val pk.2) := by simp [pdv, hpk]
     have Hst := hI (badP_step hpv)
     obtain ⟨gf, _, e1, hgf, hgf'⟩ := oSome HS.u.rf (by omega)
     obtain ⟨gt, _, e2, hgt, hgt'⟩ := oSome HS.u.rt (by omega)
     simp only [Value.slice.injEq, true_and] at e1 e2
     obtain ⟨rfl, rfl⟩ := e1
     obtain ⟨rfl, rfl⟩ := e2
     have c1 := oCell HS.u.rf (j := k) (u := .int .i64 (val pk.1)) (by simp [hpk])
     have c2 := oCell HS.u.rt (j := k) (u := .int .i64 (val pk.2)) (by simp [hpk])
     obtain ⟨x1, hx1⟩ : ∃ x1, val pk.1 = x1 := ⟨_, rfl⟩
     obtain ⟨x2, hx2⟩ : ∃ x2, val pk.2 = x2 := ⟨_, rfl⟩
     rw [hx1] at c1
     rw [hx2] at c2
     have Hst' : Hid (badP k ((pdv pd).drop k) = if x2 < x1 then (k : Int) else badP ((k + 1 : Nat) : Int) ((pdv pd).drop (k + 1))) := by show _ = _; rw [Hst.u, hx1, hx2]
     clear hpv hpk hx1 hx2 Hst
     by_cases hbad : x2 < x1
     · have Ho : Hid (outc (pdv pd) pss = (4, (k : Int))) := by
         show _ = _
         have : badP 0 (pdv pd) = k := by rw [← Hbp.u, Hst'.u, if_pos hbad]
         unfold outc; rw [if_neg Hsm.u, this, if_pos (by omega)]
       go_wp2_with fail
       go_quiet (fail)
       go_wp2_with fail
       refine bodyPost_ret (v := .tuple #[.agg #[.slice none 0 0, .slice none 0 0, .slice none 0 0], .int .i64 4, .int .i64 k]) (by simp [results, Tryz.results76, go_sem, g0, g1, g2, hlt2]) rfl ⟨_, _, _, _, _, _, _, _, _, 4, k, rfl, Ho.u, ?_, fun h => by omega⟩
       (repeat (first | refine Below.setCell ?_ (by simp) _ | refine Below.alloc ?_ (by first | omega | (simp [World.setCell]; omega)) _ | exact Hb.u | refine Below.drewN ?_ _))
     · have Hst2 : Hid (badP k ((pdv pd).drop k) = badP ((k + 1 : Nat) : Int) ((pdv pd).drop (k + 1))) := by show _ = _; rw [Hst'.u, if_neg hbad]
       go_wp2_with fail
       go_quiet (fail)
       go_wp2_with fail
       go_roundw
       case rel => exact ⟨k + 1, _, by omega, by go_num, rfl, by show _ = _; rw [← Hbp.u, Hst2.u]⟩
       case measure => simp [intOf]; omega
   · obtain rfl : k = pd.length := by omega
     have Hp0 : Hid (badP 0 (pdv pd) < 0) := by
       show _ < _
       rw [← Hbp.u, List.drop_eq_nil_of_le (by simp [pdv])]
       exact (by decide : (-1 : Int) < 0)
     clear Hbp hk hlt
     go_wp2_with fail
     go_loopw [8] (fun i wr => ∃ k m : Nat, k ≤ ss.length ∧ i = .int .i64 k ∧ wr = (w2.alloc (.cells #[.slice aof pd.length capf, .slice aot pd.length capt, .slice aor ss.length capr] 129)).drewN m ∧
         Hid (badN k (pss.drop k) = badN 0 pss)) (fun i _ => ss.length - (intOf i).toNat)
     case atStart => exact ⟨0, _, by omega, rfl, rfl, rfl⟩
     case round =>
       obtain ⟨k, m, hk, rfl, rfl, Hbn⟩ := hrel
       by_cases hlt : k < ss.length
       · obtain ⟨sk, hsk⟩ : ∃ sk, ss[k]? = some sk := ⟨ss[k], List.getElem?_eq_getElem hlt⟩
         obtain ⟨pk, hpk⟩ : ∃ pk, pss[k]? = some pk := ⟨pss[k]'(by rw [Hpl.u]; exact hlt), List.getElem?_eq_getElem _⟩
         have hro := Hrow.u k (L sk) pk (by rw [← Hss.u]; simp [hsk]) hpk
         have hskz : sk.size ≤ 200 := by rw [← L_length]; exact hro.len
         have Hst := hI (badN_step hpk)
         obtain ⟨gr, _, e1, hgr, hgr'⟩ := oSome HS.u.rr (by omega)
         simp only [Value.slice.injEq, true_and] at e1
         obtain ⟨rfl, rfl⟩ := e1
         have c1 := oCell HS.u.rr (j := k) (u := .string sk) (by simp [hsk])
         have Hro := hI hro
         clear hsk hpk hro
         go_wp2_with fail
         refine (reaches_any sk k _ hskz Hro.u.old).mono ?_
         rintro e w' ⟨rfl, rfl⟩
         rw [Hro.u.rch]
         cases hnb : nameB k pk with
         | true =>
           have Ho : Hid (outc (pdv pd) pss = (5, (k : Int))) := by
             show _ = _
             have : badN 0 pss = k := by rw [← Hbn.u, Hst.u, hnb]; rfl
             unfold outc; rw [if_neg Hsm.u, if_neg (by have := Hp0.u; omega), this, if_pos (by omega)]
           clear hnb
           go_wp2_with fail
           refine bodyPost_ret (v := .tuple #[.agg #[.slice none 0 0, .slice none 0 0, .slice none 0 0], .int .i64 5, .int .i64 k]) (by simp [results, Tryz.results76, go_sem, g0, g1, g2, hlt2]) rfl ⟨_, _, _, _, _, _, _, _, _, 5, k, rfl, Ho.u, ?_, fun h => by omega⟩
           (repeat (first | refine Below.setCell ?_ (by simp) _ | refine Below.alloc ?_ (by first | omega | (simp [World.setCell]; omega)) _ | exact Hb.u | refine Below.drewN ?_ _))
         | false =>
           have Hst2 : Hid (badN k (pss.drop k) = badN ((k + 1 : Nat) : Int) (pss.drop (k + 1))) := by show _ = _; rw [Hst.u, hnb]; rfl
           clear hnb
           go_wp2_with fail
           go_roundw
           case rel => exact ⟨k + 1, _, by omega, by go_num, rfl, by show _ = _; rw [← Hbn.u, Hst2.u]⟩
           case measure => simp [intOf]; omega
       · obtain rfl : k = ss.length := by omega
         have Hn0 : Hid (badN 0 pss < 0) := by
           show _ < _
           rw [← Hbn.u, List.drop_eq_nil_of_le (by rw [Hpl.u]; exact Nat.le_refl _)]
           exact (by decide : (-1 : Int) < 0)
         clear Hbn hk hlt
         go_wp2_with fail
         go_loopw [10, 11] (fun vk i wr => ∃ k : Nat, ∃ kinds : List Int, k ≤ ss.length ∧ i = .int .i64 k ∧ Hid (kinds.length = k) ∧ Hid (∀ x ∈ kinds, 0 ≤ x ∧ x ≤ 2) ∧ Hid (badK k kinds (pss.drop k) = badK 0 [] pss) ∧
             Hid (wr.ownsRow (w2.heap.size + 1) 3 1 vk k (kinds.map (.int .i64))) ∧ Hid (Below (w2.heap.size + 1) (w2.alloc (.cells #[.slice aof pd.length capf, .slice aot pd.length capt, .slice aor ss.length capr] 129)) wr)) (fun _ i _ => ss.length - (intOf i).toNat)
         case atStart => exact ⟨0, [], by omega, rfl, rfl, by simp [Hid], rfl, World.ownsRow_nil _ _ _ _, by exact (Below.refl _ _).drewN _⟩
         case round =>
           obtain ⟨k, kinds, hk, rfl, Hkl, Hkb, Hbk, Hkr, Hbel⟩ := hrel
           obtain ⟨aok, capk, hvk⟩ := oForm Hkr.u
           subst hvk
           have HBs : Hid (Blk wr w2.heap.size #[.slice aof pd.length capf, .slice aot pd.length capt, .slice aor ss.length capr] 129) := (Blk.new _ _ _).below Hbel.u (by omega)
           have HB0 : Hid (Blk wr w.heap.size #[.slice none 0 0, .slice none 0 0, .slice none 0 0] 129) := (HB2.u.alloc _).below Hbel.u (by omega)
           have HSr : Hid (SheetAt wr w1.heap.size (.slice aof pd.length capf) (.slice aot pd.length capt) (.slice aor ss.length capr) pd ss) := (HS.u.alloc _).kept (by have := Hbel.u; simpa using this)
           have s0 := HBs.u.cell 0
           have s1 := HBs.u.cell 1
           have s2 := HBs.u.cell 2
           have y0 := HB0.u.cell 0
           have y1 := HB0.u.cell 1
           have y2 := HB0.u.cell 2
           have u0 := HB0.u.frozen 0
           have u1 := HB0.u.frozen 1
           have u2 := HB0.u.frozen 2
           have hlw := HB0.u.lt
           simp only [List.getElem?_toArray, List.getElem?_cons_zero, List.getElem?_cons_succ] at s0 s1 s2 y0 y1 y2
           have hszr := Hbel.u.size
           simp at hszr
           have Hbw : Hid (Below w.heap.size w wr) := (Hb.u.alloc (by omega) _).trans (Hbel.u.mono (by omega))
           by_cases hlt : k < ss.length
           · obtain ⟨sk, hsk⟩ : ∃ sk, ss[k]? = some sk := ⟨ss[k], List.getElem?_eq_getElem hlt⟩
             obtain ⟨pk, hpk⟩ : ∃ pk, pss[k]? = some pk := ⟨pss[k]'(by rw [Hpl.u]; exact hlt), List.getElem?_eq_getElem _⟩
             have hro := Hrow.u k (L sk) pk (by rw [← Hss.u]; simp [hsk]) hpk
             have hskz : sk.size ≤ 200 := by rw [← L_length]; exact hro.len
             have Hst := hI (badK_step kinds hpk)
             have hnm := badN_all pss 0 (by omega) Hn0.u k pk hpk
             rw [Int.zero_add] at hnm
             have Hlt := hI (nameB_lt hnm hro.pos kinds.length (by rw [Hkl.u]))
             obtain ⟨nf, hwf⟩ := hro.wf
             have Hwf := hI hwf
             obtain ⟨gr, _, e1, hgr, hgr'⟩ := oSome HSr.u.rr (by omega)
             simp only [Value.slice.injEq, true_and] at e1
             obtain ⟨rfl, rfl⟩ := e1
             have c1 := oCell HSr.u.rr (j := k) (u := .string sk) (by simp [hsk])
             have Hkr' : Hid (wr.ownsRow (w2.heap.size + 1) 3 1 (.slice aok k capk) kinds.length (kinds.map (.int .i64))) := by show World.ownsRow _ _ _ _ _ _ _; rw [Hkl.u]; exact Hkr.u
             clear hsk hpk hro hnm hwf
             go_wp2_with fail
             refine (kind_any nf sk pk kinds _ (w2.heap.size + 1) _ hskz Hwf.u Hlt.u Hkb.u (by exact Hkr'.u)).mono ?_
             rintro e w' ⟨kk, rfl, hkk, mm, rfl⟩
             have Hkk := hI (kindP_of hkk.2.2)
             have hkk0 := hkk.1
             have hkk2 := hkk.2.1
             clear hkk
             by_cases hz : (kk == 0) = true
             · have Ho : Hid (outc (pdv pd) pss = (6, (k : Int))) := by
                 show _ = _
                 have : badK 0 [] pss = k := by rw [← Hbk.u, Hst.u, Hkk.u, hz]; rfl
                 unfold outc; rw [if_neg Hsm.u, if_neg (by have := Hp0.u; omega), if_neg (by have := Hn0.u; omega), this, if_pos (by omega)]
               go_wp2_with fail
               refine bodyPost_ret (v := .tuple #[.agg #[.slice none 0 0, .slice none 0 0, .slice none 0 0], .int .i64 6, .int .i64 k]) (by simp [results, Tryz.results76, go_sem, y0, y1, y2]) rfl ⟨_, _, _, _, _, _, _, _, _, 6, k, rfl, Ho.u, ?_, fun h => by omega⟩
               (repeat (first | refine Below.setCell ?_ (by simp) _ | exact Hbw.u | refine Below.drewN ?_ _))
             · have hz' : (kk == 0) = false := by simpa using hz
               have Hst2 : Hid (badK k kinds (pss.drop k) = badK ((k + 1 : Nat) : Int) (kinds ++ [kk]) (pss.drop (k + 1))) := by show _ = _; rw [Hst.u, Hkk.u, hz']; rfl
               clear hz
               go_wp2_with (first
                 | (at_builtin; refine wpList_append_own _ rfl _ _ 28 rfl (w2.heap.size + 1) 3 ii (.int .i64 0) 1 8 Tryz.underlying28 hi hz0 hz1 hz2 rfl (by decide) _ _ _ rfl (World.ownsRow.alloc (by exact Hkr.u) _) ⟨wr.heap.size, 0, none⟩ 1 1 [.int .i64 kk] rfl rfl (cell_one_new' _ _ rfl _ _) (fun x hx => by simp at hx; subst hx; rfl) (by unfold maxLen; omega) (by omega) (by simp; omega) ?_; intro vk' w5 hown5 hgr5 _))
               have Hown5 := hI hown5
               have Hgr5 := hI hgr5
               clear hown5 hgr5
               go_wp2_with fail
               go_roundw
               case rel =>
                 refine ⟨k + 1, kinds ++ [kk], by omega, by go_num, ?_, ?_, ?_, ?_, ?_⟩
                 · show _ = _
                   simp [Hkl.u]
                 · intro x hx
                   simp at hx
                   rcases hx with hx | rfl
                   · exact Hkb.u x hx
                   · exact ⟨hkk0, hkk2⟩
                 · show _ = _
                   rw [← Hbk.u, Hst2.u]
                 · show World.ownsRow _ _ _ _ _ _ _
                   simpa using Hown5.u
                 · exact ((Hbel.u.drewN _).alloc (by simpa using hszr) _).grown Hgr5.u (by simp; omega) (fun g hg => (Hkr.u.lt g hg).1)
               case measure => simp [intOf]; omega
           · obtain rfl : k = ss.length := by omega
             have Ho : Hid (outc (pdv pd) pss = (0, 0)) := by
               show _ = _
               have : badK 0 [] pss = -1 := by rw [← Hbk.u, List.drop_eq_nil_of_le (by rw [Hpl.u]; exact Nat.le_refl _)]; rfl
               unfold outc; rw [if_neg Hsm.u, if_neg (by have := Hp0.u; omega), if_neg (by have := Hn0.u; omega), this, if_neg (by omega)]
             go_wp2_with fail
             refine bodyPost_ret (v := .tuple #[.agg #[.slice aof pd.length capf, .slice aot pd.length capt, .slice aor ss.length capr], .int .i64 0, .int .i64 0]) (by simp [results, Tryz.results76, go_sem, y0, y1, y2]) rfl ⟨_, _, _, _, _, _, _, _, _, 0, 0, rfl, Ho.u, ?_, fun _ => ⟨ss, Hss.u, ?_⟩⟩
             · (repeat (first | refine Below.setCell ?_ (by simp) _ | exact Hbw.u | refine Below.drewN ?_ _))
             · have hsr := HSr.u
               refine ⟨?_, ?_, ?_⟩
               · exact oBase (ownsRow_setCell_below (ownsRow_setCell_below (ownsRow_setCell_below hsr.rf (by simp; omega) _) (by simp; omega) _) (by simp; omega) _) (fun g hg => by have := (hsr.rf.lt g hg).1; omega)
               · exact oBase (ownsRow_setCell_below (ownsRow_setCell_below (ownsRow_setCell_below hsr.rt (by simp; omega) _) (by simp; omega) _) (by simp; omega) _) (fun g hg => by have := (hsr.rt.lt g hg).1; omega)
               · exact oBase (ownsRow_setCell_below (ownsRow_setCell_below (ownsRow_setCell_below hsr.rr (by simp; omega) _) (by simp; omega) _) (by simp; omega) _) (fun g hg => by have := (hsr.rr.lt g hg).1; omega)
def cellsC (l : List Cl) : List Value := l.flatMap fun c => [.int .i64 c.1, .int .u8 c.2]
theorem cellsC_snoc (l : List Cl) (c : Cl) : cellsC (l ++ [c]) = cellsC l ++ [.int .i64 c.1, .int .u8 c.2] := by simp [cellsC]
theorem cellsC_length (p : List Cl) : (cellsC p).length = p.length * 2 := by
 induction p with
 | nil => rfl
 | cons x t ih => show (_ :: _ :: cellsC t).length = _; simp [ih]; omega
structure CellsAt (w : World) (B : Nat) (vc : Value) (vs : List Value) (cells : List (List Cl)) : Prop where
 own : w.ownsRow B 141 1 vc vs.length vs
 len : vs.length = cells.length
 row : ∀ (i : Nat) v c, vs[i]? = some v → cells[i]? = some c → w.ownsRow B 139 2 v c.length (cellsC c)
theorem CellsAt.kept {w w' : World} {B : Nat} {vc : Value} {vs : List Value} {cells : List (List Cl)} (h : CellsAt w B vc vs cells) (hb : Below w.heap.size w w') : CellsAt w' B vc vs cells :=
 ⟨oBelow h.own hb, h.len, fun i v c h1 h2 => oBelow (h.row i v c h1 h2) hb⟩
theorem CellsAt.nil (w : World) (B : Nat) : CellsAt w B (.slice none 0 0) [] [] := ⟨World.ownsRow_nil _ _ _ _, rfl, by intro i v c h; simp at h⟩
structure GridAt (w : World) (g : Nat) (s : Bk) (pd : List (List UInt8 × List UInt8)) (cells : List (List Cl)) (pb B : Nat) (vf vt vr vc : Value) (ss : List ByteArray) (vs : List Value) : Prop where
 blk : Blk w g #[.pointer (some ⟨pb, 0, none⟩), vf, vt, vr, vc] 136
 bk : ∃ B', Rfd w B' pb s
 sh : SheetAt w B vf vt vr pd ss
 cs : CellsAt w (g + 1) vc vs cells
 wid : ∀ row ∈ cells, row.length = pd.length
 few : pd.length ≤ 4 ∧ cells.length ≤ 8
 ok : ∀ row ∈ cells, ∀ c ∈ row, ClOk c
theorem Rfd.kept {w w' : World} {B p : Nat} {s : Bk} (h : Rfd w B p s) (hb : Below w.heap.size w w') : Rfd w' B p s := by
 obtain ⟨a, b, c, d, h⟩ := h
 exact ⟨a, b, c, d, h.kept hb⟩
theorem GridAt.kept {w w' : World} {g : Nat} {s : Bk} {pd : List (List UInt8 × List UInt8)} {cells : List (List Cl)} {pb B : Nat} {vf vt vr vc : Value} {ss : List ByteArray} {vs : List Value} (h : GridAt w g s pd cells pb B vf vt vr vc ss vs) (hb : Below w.heap.size w w') : GridAt w' g s pd cells pb B vf vt vr vc ss vs :=
 ⟨h.blk.kept hb, (let ⟨B', hr⟩ := h.bk; ⟨B', hr.kept hb⟩), h.sh.kept hb, h.cs.kept hb, h.wid, h.few, h.ok⟩
def gE (s : Bk) (pd : List (List UInt8 × List UInt8)) (cells : List (List Cl)) (k : Nat) : Pt → Cl := opE s (pdv pd) cells k
theorem five_cells {W : World} {n : Nat} {a b c d e : Value} {T : TypeId} (B : Blk W n #[a, b, c, d, e] T) : W.cell? ⟨n, 0, none⟩ = some a ∧ W.cell? ⟨n, 1, none⟩ = some b ∧ W.cell? ⟨n, 2, none⟩ = some c ∧ W.cell? ⟨n, 3, none⟩ = some d ∧ W.cell? ⟨n, 4, none⟩ = some e := by
 refine ⟨?_, ?_, ?_, ?_, ?_⟩ <;> rw [B.cell] <;> rfl
theorem row_get {w : World} {g : Nat} {s : Bk} {pd : List (List UInt8 × List UInt8)} {cells : List (List Cl)} {pb B : Nat} {vf vt vr vc : Value} {ss : List ByteArray} {vs : List Value} (h : GridAt w g s pd cells pb B vf vt vr vc ss vs) {n k : Nat} (hn : n < cells.length) (hk : k < pd.length) :
  ∃ gc capc a gr capr x y, vc = .slice (some ⟨gc, 0, none⟩) cells.length capc ∧ w.cell? ⟨gc, n, none⟩ = some (.slice (some ⟨gr, 0, none⟩) pd.length capr) ∧ a = gr ∧ w.cell? ⟨gr, k * 2, none⟩ = some (.int .i64 x) ∧ w.cell? ⟨gr, k * 2 + 1, none⟩ = some (.int .u8 y) ∧ (cells.getD n []).getD k (0, 0) = (x, y) ∧ gc < w.heap.size ∧ gr < w.heap.size := by
 obtain ⟨v, hv⟩ : ∃ v, vs[n]? = some v := ⟨vs[n]'(by rw [h.cs.len]; exact hn), List.getElem?_eq_getElem _⟩
 obtain ⟨c, hc⟩ : ∃ c, cells[n]? = some c := ⟨cells[n], List.getElem?_eq_getElem hn⟩
 have hr := h.cs.row n v c hv hc
 have hcl := h.wid c (List.mem_of_getElem? hc)
 obtain ⟨gc, capc, rfl, hg, hg'⟩ := oSome h.cs.own (by rw [h.cs.len]; omega)
 obtain ⟨gr, capr, rfl, hr1, hr2⟩ := oSome hr (by omega)
 obtain ⟨x, hx⟩ : ∃ x, c[k]? = some x := ⟨c[k]'(by omega), List.getElem?_eq_getElem _⟩
 have h2 := two_get (fun c : Cl => Value.int .i64 c.1) (fun c => Value.int .u8 c.2) c k x hx
 have d0 := oCell h.cs.own (j := n) hv
 have d1 := oCell hr (j := k * 2) h2.1
 have d2 := oCell hr (j := k * 2 + 1) h2.2
 refine ⟨gc, capc, gr, gr, capr, x.1, x.2, by rw [h.cs.len], by rw [d0, hcl], rfl, d1, d2, ?_, hg', hr2⟩
 have e1 : cells.getD n [] = c := by rw [List.getD_eq_getElem?_getD, hc, Option.getD_some]
 rw [e1, List.getD_eq_getElem?_getD, hx, Option.getD_some]
end Go.Proofs.YtdchbenfccofpaaGreatDoor
namespace Db
def hd : List UInt8 → Int
 | [] => 0
 | c :: _ => c.toNat
def Blanks (x : List UInt8) : Prop := ∀ c ∈ x, c.toNat = 32
theorem bare_blanks {x : List UInt8} (h : Blanks x) : bare x = [] := by
 unfold bare; rw [List.filter_eq_nil_iff]; intro c hc; simp [h c hc]
def simD : Option (Int × Int × Int) → Option (Int × Int × Int) → Prop
 | none, none => True
 | some p, some q => p.1 = q.1 ∧ p.2.2 = q.2.2 ∧ (p.2.1 = q.2.1 ∨ p.1 = 6 ∨ p.1 = 8 ∨ p.1 = 9 ∨ p.1 = 10 ∨ p.1 = 11)
 | _, _ => False
theorem plc_d (l : List UInt8) : ∀ (a d d' o i : Int), (a = 6 ∨ a = 8 ∨ a = 9 ∨ a = 10 ∨ a = 11) → plc a d o i l = plc a d' o i l := by
 induction l with
 | nil => intro a d d' o i _; rfl
 | cons c r ih =>
   intro a d d' o i ha
   have key : ∀ x y : Option (Int × Int × Int), simD x y →
       (match x with | none => i | some (a', d', o') => plc a' d' o' (i + 1) r) = (match y with | none => i | some (a', d', o') => plc a' d' o' (i + 1) r) := by
     intro x y h
     match x, y, h with
     | none, none, _ => rfl
     | some (a1, e1, o1), some (a2, e2, o2), ⟨h1, h2, h3⟩ =>
       simp only at h1 h2 h3 ⊢
       subst h1 h2
       rcases h3 with h3 | h3
       · rw [h3]
       · exact ih _ _ _ _ _ h3
   show (match stepS a d o c.toNat with | none => i | some (a', d', o') => plc a' d' o' (i + 1) r) = (match stepS a d' o c.toNat with | none => i | some (a', d', o') => plc a' d' o' (i + 1) r)
   apply key
   rcases ha with rfl | rfl | rfl | rfl | rfl
   · unfold stepS factS
     simp only [show ¬ (6 : Int) < 6 by omega, if_false]
     cases h1 : ((c.toNat : Int) == 32 || (c.toNat : Int) == 45) <;> cases h2 : ((c.toNat : Int) == 40) <;> cases h3 : digB c.toNat <;> cases h4 : selB c.toNat <;> cases h5 : oldB c.toNat <;> simp [simD]
   · unfold stepS factS
     simp only [show ¬ (8 : Int) < 6 by omega, if_false]
     cases h3 : digB c.toNat <;> simp [simD]
   · unfold stepS factS
     simp only [show ¬ (9 : Int) < 6 by omega, if_false]
     cases h3 : digB c.toNat <;> simp [simD]
   · unfold stepS onwS
     simp only [show ¬ (10 : Int) < 6 by omega, if_false]
     cases h1 : ((c.toNat : Int) == 32) <;> cases h3 : digB c.toNat <;> cases h4 : opB c.toNat <;> cases h5 : ((c.toNat : Int) == 59 && o == 0) <;> cases h7 : ((c.toNat : Int) == 41 && decide (0 < o)) <;> simp [simD]
   · unfold stepS onwS
     simp only [show ¬ (11 : Int) < 6 by omega, if_false]
     cases h1 : ((c.toNat : Int) == 32) <;> cases h4 : opB c.toNat <;> cases h5 : ((c.toNat : Int) == 59 && o == 0) <;> cases h7 : ((c.toNat : Int) == 41 && decide (0 < o)) <;> simp [simD]
theorem stepS_lt {a d o c : Int} (h : a < 6) : stepS a d o c = daysS a d o c := by unfold stepS; rw [if_pos h]
theorem stepS6 (d o c : Int) : stepS 6 d o c = factS 6 d o c := rfl
theorem stepS8 (d o c : Int) : stepS 8 d o c = factS 8 d o c := rfl
theorem stepS9 (d o c : Int) : stepS 9 d o c = factS 9 d o c := rfl
theorem stepS7 (d o c : Int) : stepS 7 d o c = onwS 7 d o c := rfl
theorem stepS10 (d o c : Int) : stepS 10 d o c = onwS 10 d o c := rfl
theorem stepS11 (d o c : Int) : stepS 11 d o c = onwS 11 d o c := rfl
theorem plc_skip (a : Int) (ha : a = 0 ∨ a = 2 ∨ a = 3 ∨ a = 5 ∨ a = 6 ∨ a = 11) (x : List UInt8) (hx : Blanks x) : ∀ d o i r, plc a d o i (x ++ r) = plc a d o (i + x.length) r := by
 induction x with
 | nil => intro d o i r; simp
 | cons c t ih =>
  intro d o i r
  have hc : (c.toNat : Int) = 32 := by have := hx c (by simp); omega
  have hst : stepS a d o c.toNat = some (a, d, o) := by
   rw [hc]
   rcases ha with rfl | rfl | rfl | rfl | rfl | rfl <;> rfl
  rw [List.cons_append, plc_step hst, ih (fun y hy => hx y (by simp [hy]))]
  congr 1
  simp; omega
theorem plc_num_end (m o i : Int) (l : List UInt8) (h : 18 ≤ m ∨ digB (hd l) = false) : plc 7 m o i l = plc 11 0 o i l := by
 cases l with
 | nil => rfl
 | cons c r =>
  rw [plc_d (c :: r) 11 0 m _ _ (by simp)]
  have : stepS 7 m o c.toNat = stepS 11 m o c.toNat := by
   rw [stepS7, stepS11]
   unfold onwS
   rcases h with h | h
   ·simp [show ¬ m < 18 by omega]
   ·simp only [hd] at h
    simp [h]
  simp only [plc, this]
theorem plc_acc_end (d o i : Int) (l : List UInt8) (h : digB (hd l) = false) : plc 10 d o i l = plc 11 0 o i l := by
 cases l with
 | nil => rfl
 | cons c r =>
  rw [plc_d (c :: r) 11 0 d _ _ (by simp)]
  have : stepS 10 d o c.toNat = stepS 11 d o c.toNat := by
   rw [stepS10, stepS11]
   unfold onwS
   simp only [hd] at h
   simp [h]
  simp only [plc, this]
theorem plc_num (ds : List UInt8) (hd : ∀ c ∈ ds, digB c.toNat = true) : ∀ (m o i : Int) (r : List UInt8), 0 ≤ m → m + ds.length ≤ 18 → plc 7 m o i (ds ++ r) = plc 7 (m + ds.length) o (i + ds.length) r := by
 induction ds with
 | nil => intro m o i r _ _; simp
 | cons c t ih =>
  intro m o i r hm hl
  simp only [List.length_cons] at hl
  have hst : stepS 7 m o c.toNat = some (7, m + 1, o) := by
   rw [stepS7]; unfold onwS; simp [hd c (by simp), show m < 18 by omega]
  rw [List.cons_append, plc_step hst, ih (fun y hy => hd y (by simp [hy])) _ _ _ _ (by omega) (by omega)]
  simp only [List.length_cons]
  congr 1 <;> omega
theorem dig_c {c : Int} (h : digB c = true) : ¬ c = 32 ∧ ¬ c = 45 ∧ ¬ c = 40 := by simp [digB] at h; omega
theorem plc_number (ds : List UInt8) (hdg : ∀ c ∈ ds, digB c.toNat = true) (h1 : 1 ≤ ds.length) (h18 : ds.length ≤ 18) (r : List UInt8) (he : ds.length = 18 ∨ digB (hd r) = false) (d o i : Int) : plc 6 d o i (ds ++ r) = plc 11 0 o (i + ds.length) r := by
 match ds, h1 with
 | c :: t, _ =>
  have hc := hdg c (by simp)
  have hn := dig_c hc
  have hst : stepS 6 d o c.toNat = some (7, 1, o) := by
   rw [stepS6]; unfold factS; simp [hc, hn.1, hn.2.1, hn.2.2]
  simp only [List.length_cons] at h18 he ⊢
  rw [List.cons_append, plc_step hst, plc_num t (fun y hy => hdg y (by simp [hy])) _ _ _ _ (by omega) (by omega), plc_num_end _ _ _ _ (by rcases he with h | h; left; omega; right; exact h)]
  congr 1
  omega
theorem sel_c {c : Int} (h : selB c = true) : ¬ c = 32 ∧ ¬ c = 45 ∧ ¬ c = 40 ∧ digB c = false := by
 simp [selB] at h; rcases h with (rfl | rfl) | rfl <;> simp [digB]
theorem old_c {c : Int} (h : oldB c = true) : ¬ c = 32 ∧ ¬ c = 45 ∧ ¬ c = 40 ∧ digB c = false ∧ selB c = false := by
 simp [oldB] at h; rcases h with rfl | rfl <;> simp [digB, selB]
theorem op_c {c : Int} (h : opB c = true) : ¬ c = 32 ∧ ¬ c = 40 ∧ ¬ c = 41 ∧ ¬ c = 59 ∧ digB c = false ∧ selB c = false ∧ oldB c = false := by
 simp [opB] at h; rcases h with ((rfl | rfl) | rfl) | rfl <;> simp [digB, selB, oldB]
theorem plc_sel1 {c : UInt8} (h : selB c.toNat = true) (d o i : Int) (r : List UInt8) : plc 6 d o i (c :: r) = plc 8 d o (i + 1) r := by
 have hn := sel_c h
 exact plc_step (by rw [stepS6]; unfold factS; simp [h, hn.1, hn.2.1, hn.2.2.1, hn.2.2.2])
theorem plc_old1 {c : UInt8} (h : oldB c.toNat = true) (d o i : Int) (r : List UInt8) : plc 6 d o i (c :: r) = plc 9 d o (i + 1) r := by
 have hn := old_c h
 exact plc_step (by rw [stepS6]; unfold factS; simp [h, hn.1, hn.2.1, hn.2.2.1, hn.2.2.2.1, hn.2.2.2.2])
theorem plc_sel (ds : List UInt8) (hdg : ∀ c ∈ ds, digB c.toNat = true) (h1 : 1 ≤ ds.length) (h2 : ds.length ≤ 2) (r : List UInt8) (he : ds.length = 2 ∨ digB (hd r) = false) (d o i : Int) : plc 8 d o i (ds ++ r) = plc 11 0 o (i + ds.length) r := by
 have s8 : ∀ x : UInt8, digB x.toNat = true → ∀ d, stepS 8 d o x.toNat = some (10, d, o) := fun x hx d => by rw [stepS8]; unfold factS; simp [hx]
 have s10 : ∀ x : UInt8, digB x.toNat = true → ∀ d, stepS 10 d o x.toNat = some (11, d, o) := fun x hx d => by rw [stepS10]; unfold onwS; simp [hx]
 match ds, h1, h2 with
 | [x], _, _ =>
  rw [List.cons_append, plc_step (s8 x (hdg x (by simp)) d)]
  simp only [List.length_cons, List.length_nil, List.nil_append] at he ⊢
  rw [plc_acc_end _ _ _ _ (by rcases he with he | he; omega; exact he)]
  rfl
 | [x, y], _, _ =>
  rw [List.cons_append, plc_step (s8 x (hdg x (by simp)) d), List.cons_append, plc_step (s10 y (hdg y (by simp)) d), plc_d _ 11 d 0 _ _ (by simp)]
  simp only [List.length_cons, List.length_nil, List.nil_append]
  congr 1
  omega
 | _ :: _ :: _ :: _, _, h2 => simp at h2
theorem plc_old (x : UInt8) (hx : digB x.toNat = true) (r : List UInt8) (d o i : Int) : plc 9 d o i (x :: r) = plc 11 0 o (i + 1) r := by
 rw [plc_step (show stepS 9 d o x.toNat = some (11, d, o) by rw [stepS9]; unfold factS; simp [hx]), plc_d _ 11 d 0 _ _ (by simp)]
theorem plc_fail8 (l : List UInt8) (h : digB (hd l) = false) (d o i : Int) : plc 8 d o i l = i := by
 cases l with
 | nil => rfl
 | cons c r => exact plc_stop (by rw [stepS8]; unfold factS; simp only [hd] at h; simp [h])
theorem plc_fail9 (l : List UInt8) (h : digB (hd l) = false) (d o i : Int) : plc 9 d o i l = i := by
 cases l with
 | nil => rfl
 | cons c r => exact plc_stop (by rw [stepS9]; unfold factS; simp only [hd] at h; simp [h])
theorem plc_fail6 (l : List UInt8) (h1 : ¬ hd l = 32) (h2 : ¬ hd l = 45) (h3 : ¬ hd l = 40) (h4 : digB (hd l) = false) (h5 : selB (hd l) = false) (h6 : oldB (hd l) = false) (d o i : Int) : plc 6 d o i l = i := by
 cases l with
 | nil => rfl
 | cons c r => exact plc_stop (by rw [stepS6]; unfold factS; simp only [hd] at *; simp [*])
theorem plc_neg {c : UInt8} (h : (c.toNat : Int) = 45) (d o i : Int) (r : List UInt8) : plc 6 d o i (c :: r) = plc 6 d o (i + 1) r :=
 plc_step (by rw [stepS6]; unfold factS; simp [h])
theorem plc_par {c : UInt8} (h : (c.toNat : Int) = 40) (d o i : Int) (r : List UInt8) : plc 6 d o i (c :: r) = plc 6 d (o + 1) (i + 1) r :=
 plc_step (by rw [stepS6]; unfold factS; simp [h])
theorem plc_op {c : UInt8} (h : opB c.toNat = true) (d o i : Int) (r : List UInt8) : plc 11 d o i (c :: r) = plc 6 d o (i + 1) r := by
 have hn := op_c h
 exact plc_step (by rw [stepS11]; unfold onwS; simp [h, hn.1])
theorem plc_shut {c : UInt8} (h : (c.toNat : Int) = 41) (d o i : Int) (ho : 0 ≤ o) (r : List UInt8) : plc 11 d (o + 1) i (c :: r) = plc 11 d o (i + 1) r := by
 have e : stepS 11 d (o + 1) c.toNat = some (11, d, o) := by
  rw [stepS11, h]; unfold onwS; simp [opB, show 0 < o + 1 by omega]
 exact plc_step e
theorem plc_row {c : UInt8} (h : (c.toNat : Int) = 59) (d i : Int) (r : List UInt8) : plc 11 d 0 i (c :: r) = plc 6 d 0 (i + 1) r :=
 plc_step (by rw [stepS11, h]; unfold onwS; simp [opB])
theorem plc_fail11 (l : List UInt8) (h1 : ¬ hd l = 32) (h2 : opB (hd l) = false) (h3 : ¬ hd l = 41) (d o i : Int) (ho : 0 ≤ o) : plc 11 d (o + 1) i l = i := by
 cases l with
 | nil => simp [plc]; omega
 | cons c r =>
  refine plc_stop ?_
  rw [stepS11]; unfold onwS; simp only [hd] at *
  simp [h1, h2, h3, show ¬ o + 1 = 0 by omega]
theorem plc_fail0 (l : List UInt8) (hn : l ≠ []) (h1 : ¬ hd l = 32) (h2 : opB (hd l) = false) (h3 : ¬ hd l = 59) (d i : Int) : plc 11 d 0 i l = i := by
 cases l with
 | nil => exact absurd rfl hn
 | cons c r =>
  refine plc_stop ?_
  rw [stepS11]; unfold onwS; simp only [hd] at *
  simp [h1, h2, h3]
def stt (p : Int) : Prop := digB p = false ∧ ¬ p = 41
def lst (e : List UInt8) : Int := match e.getLast? with | some c => c.toNat | none => -1
def upd (a b : Int) (e : List UInt8) (at_ i : Int) : Int := if fin e a b < 0 then at_ else i + fin e a b
structure ExpS (e : List UInt8) (ps : List Pt) : Prop where
 wf : ∃ n, Wf n e ps
 pos : 0 < e.length
 ends : digB (lst e) = true ∨ lst e = 41
 scan : ∀ (a b p k at_ i : Int) (r : List UInt8), 0 ≤ k → stt p → finGo a b p k at_ i (e ++ r) = finGo a b (lst e) k (if k = 0 then upd a b e at_ i else at_) (i + e.length) r
 chars : ∀ c ∈ e, ¬ c.toNat = 32 ∧ ¬ c.toNat = 44 ∧ ¬ c.toNat = 59 ∧ ¬ c.toNat = 124
 old : ∀ r, oldDig r → oldDig (e ++ r)
 rch : ∀ row r, rch row (e ++ r) = (nameB row ps || rch row r)
 sel : ∀ (q : Int → Bool) r, digB (hd r) = false → strg q (e ++ r) = (selq q ps || strg q r)
 num : ∀ p ∈ ps, 0 ≤ p.2
theorem Wf_mono {n : Nat} : ∀ {e : List UInt8} {ps : List Pt}, Wf n e ps → Wf (n + 1) e ps := by
 induction n with
 | zero => intro e ps h; exact absurd h (by simp [Wf])
 | succ n ih =>
  intro e ps h
  rcases h with h | ⟨h1, h2⟩ | ⟨h1, p, h2, h3⟩ | ⟨h1, p, q, h2, h3, h4⟩
  ·exact .inl h
  ·exact .inr (.inl ⟨h1, ih h2⟩)
  ·exact .inr (.inr (.inl ⟨h1, p, ih h2, h3⟩))
  ·exact .inr (.inr (.inr ⟨h1, p, q, ih h2, ih h3, h4⟩))
theorem Wf_add {n : Nat} (m : Nat) {e : List UInt8} {ps : List Pt} (h : Wf n e ps) : Wf (n + m) e ps := by
 induction m with
 | zero => exact h
 | succ m ih => exact Wf_mono ih
theorem Wf_le {n m : Nat} (hm : n ≤ m) {e : List UInt8} {ps : List Pt} (h : Wf n e ps) : Wf m e ps := by
 obtain ⟨k, rfl⟩ := Nat.le.dest hm
 exact Wf_add k h
theorem finGo_ge (a b : Int) (l : List UInt8) : ∀ p k at_ i : Int, 0 ≤ i → -1 ≤ at_ → -1 ≤ finGo a b p k at_ i l := by
 induction l with
 | nil => intro p k at_ i _ h; exact h
 | cons c r ih =>
  intro p k at_ i hi h
  exact ih _ _ _ _ (by omega) (by unfold hit; split <;> omega)
theorem fin_ge (l : List UInt8) (a b : Int) : -1 ≤ fin l a b := finGo_ge a b l _ _ _ _ (by omega) (by omega)
theorem stt_start : stt (-1) := ⟨by decide, by decide⟩
theorem ExpS.fin_of {e : List UInt8} {ps : List Pt} (h : ExpS e ps) (a b p at_ i : Int) (hp : stt p) : finGo a b p 0 at_ i e = upd a b e at_ i := by
 have := h.scan a b p 0 at_ i [] (by omega) hp
 simpa [finGo] using this
theorem lst_append (x : List UInt8) (c : UInt8) (y : List UInt8) (hy : 0 < y.length) : lst (x ++ c :: y) = lst y := by
 unfold lst
 rw [List.getLast?_append, List.getLast?_cons]
 cases h : y.getLast? with
 | none => simp at h; subst h; simp at hy
 | some z => simp
theorem lst_cons (c : UInt8) (y : List UInt8) (hy : 0 < y.length) : lst (c :: y) = lst y := lst_append [] c y hy
theorem lst_snoc (x : List UInt8) (c : UInt8) : lst (x ++ [c]) = c.toNat := by simp [lst]
theorem fin_join {l r : List UInt8} {p q : List Pt} (hl : ExpS l p) (hr : ExpS r q) (o : UInt8) (ho : opB o.toNat = true) (a b : Int) :
  fin (l ++ o :: r) a b = if 0 ≤ fin r a b then (l.length : Int) + 1 + fin r a b else if ((o.toNat : Int) == a || (o.toNat : Int) == b) then (l.length : Int) else fin l a b := by
 have hc := op_c ho
 have hdep : dep 0 (o.toNat : Int) = 0 := by simp [dep, hc.2.1, hc.2.2.1]
 have hbin : binB (lst l) (o.toNat : Int) = true := by
  unfold binB; rw [ho]
  rcases hl.ends with h | h <;> simp [h]
 unfold fin
 rw [hl.scan a b (-1) 0 (-1) 0 (o :: r) (by omega) stt_start]
 simp only [if_true, finGo, hdep]
 rw [hr.fin_of a b _ _ _ ⟨hc.2.2.2.2.1, hc.2.2.1⟩]
 have g := fin_ge r a b
 have g2 := fin_ge l a b
 unfold upd hit
 rw [hbin]
 have e1 : fin l a b = finGo a b (-1) 0 (-1) 0 l := rfl
 have e2 : fin r a b = finGo a b (-1) 0 (-1) 0 r := rfl
 rw [← e1, ← e2]
 by_cases h1 : fin r a b < 0
 ·rw [if_pos h1, if_neg (show ¬ 0 ≤ fin r a b by omega)]
  cases h2 : ((o.toNat : Int) == a || (o.toNat : Int) == b)
  ·simp only [Bool.and_false, Bool.false_eq_true, if_false]
   split <;> omega
  ·simp
 ·rw [if_neg h1, if_pos (show 0 ≤ fin r a b by omega)]
  omega
theorem scan_join {l r : List UInt8} {p q : List Pt} (hl : ExpS l p) (hr : ExpS r q) (o : UInt8) (ho : opB o.toNat = true)
  (a b p0 k at_ i : Int) (rest : List UInt8) (hk : 0 ≤ k) (hp : stt p0) :
  finGo a b p0 k at_ i ((l ++ o :: r) ++ rest) = finGo a b (lst (l ++ o :: r)) k (if k = 0 then upd a b (l ++ o :: r) at_ i else at_) (i + (l ++ o :: r).length) rest := by
 have hc := op_c ho
 have hdep : dep k (o.toNat : Int) = k := by simp [dep, hc.2.1, hc.2.2.1]
 have hbin : binB (lst l) (o.toNat : Int) = true := by
  unfold binB; rw [ho]
  rcases hl.ends with h | h <;> simp [h]
 have hj := fin_join hl hr o ho a b
 have g := fin_ge r a b
 have g2 := fin_ge l a b
 rw [List.append_assoc, hl.scan a b p0 k at_ i _ hk hp, List.cons_append]
 simp only [finGo, hdep]
 rw [hr.scan a b _ k _ _ rest hk ⟨hc.2.2.2.2.1, hc.2.2.1⟩, lst_append l o r hr.pos]
 have hlen : i + (l.length : Int) + 1 + (r.length : Int) = i + ((l ++ o :: r).length : Int) := by simp; omega
 rw [hlen]
 congr 1
 by_cases h0 : k = 0
 ·subst h0
  simp only [if_true]
  unfold hit
  rw [hbin]
  unfold upd
  rw [hj]
  by_cases h1 : fin r a b < 0
  ·rw [if_pos h1, if_neg (show ¬ 0 ≤ fin r a b by omega)]
   cases h2 : ((o.toNat : Int) == a || (o.toNat : Int) == b)
   ·simp
   ·simp; omega
  ·rw [if_neg h1, if_pos (show 0 ≤ fin r a b by omega), if_neg (by omega)]
   omega
 ·have hk0 : (k == 0) = false := by simpa using h0
  simp [h0, hit, hk0]
def TrmS (e : List UInt8) (ps : List Pt) : Prop := ExpS e ps ∧ fin e 43 45 < 0
def FacS (e : List UInt8) (ps : List Pt) : Prop := ExpS e ps ∧ fin e 43 45 < 0 ∧ fin e 42 47 < 0
theorem FacS.trm {e : List UInt8} {ps : List Pt} (h : FacS e ps) : TrmS e ps := ⟨h.1, h.2.1⟩
theorem cut_join (l : List UInt8) (o : UInt8) (r : List UInt8) (hl : 0 < l.length) (h : cutAt (l ++ o :: r) = (l.length : Int)) : cut (l ++ o :: r) = ((o.toNat : Int), l, r) := by
 unfold cut
 rw [if_pos (by rw [h]; omega), h]
 simp only [Int.toNat_natCast]
 refine Prod.ext ?_ (Prod.ext ?_ ?_)
 ·simp [List.getD]
 ·simp
 ·simp [List.drop_append]
theorem nameB_append (row : Int) (p q : List Pt) : nameB row (p ++ q) = (nameB row p || nameB row q) := by simp [nameB]
theorem nameB_op (row : Int) (o : Int) (h : oldB o = false) : nameB row [(o, 0)] = false := by simp [nameB, h]
theorem rch_cons_not {row : Int} {c : UInt8} (r : List UInt8) (h : oldB c.toNat = false) : rch row (c :: r) = rch row r := by
 simp [rch, h]
theorem oldDig_cons_not {c : UInt8} {r : List UInt8} (h : oldB c.toNat = false) (hr : oldDig r) : oldDig (c :: r) := ⟨fun hc => (by rw [h] at hc; cases hc), hr⟩
theorem join_shape {l r : List UInt8} {p q : List Pt} (hl : ExpS l p) (hr : ExpS r q) (o : UInt8) (ho : opB o.toNat = true) (hcut : cutAt (l ++ o :: r) = (l.length : Int)) :
  ExpS (l ++ o :: r) (p ++ q ++ [((o.toNat : Int), 0)]) := by
 have hc := op_c ho
 obtain ⟨n1, h1⟩ := hl.wf
 obtain ⟨n2, h2⟩ := hr.wf
 refine ⟨⟨n1 + n2 + 1, ?_⟩, ?_, ?_, ?_, ?_, ?_, ?_, ?_, ?_⟩
 ·have e := cut_join l o r hl.pos hcut
  refine .inr (.inr (.inr ⟨by rw [e]; exact ho, p, q, ?_, ?_, by rw [e]⟩))
  ·rw [e]; exact Wf_le (by omega) h1
  ·rw [e]; exact Wf_le (by omega) h2
 ·simp; omega
 ·rw [lst_append l o r hr.pos]; exact hr.ends
 ·intro a b p0 k at_ i rest hk hp
  exact scan_join hl hr o ho a b p0 k at_ i rest hk hp
 ·intro c hcm
  rw [List.mem_append, List.mem_cons] at hcm
  rcases hcm with h | rfl | h
  ·exact hl.chars c h
  ·simp [opB] at ho; omega
  ·exact hr.chars c h
 ·intro rest hrest
  rw [List.append_assoc, List.cons_append]
  exact hl.old _ (oldDig_cons_not hc.2.2.2.2.2.2 (hr.old _ hrest))
 ·intro row rest
  rw [List.append_assoc, List.cons_append, hl.rch, rch_cons_not _ hc.2.2.2.2.2.2, hr.rch, nameB_append, nameB_append, nameB_op _ _ hc.2.2.2.2.2.2]
  simp [Bool.or_assoc]
 ·intro q rest hrest
  rw [List.append_assoc, List.cons_append, hl.sel _ _ (by simp only [hd]; exact hc.2.2.2.2.1), strg_cons_not _ hc.2.2.2.2.2.1, hr.sel _ _ hrest, selq_append, selq_append, selq_op _ _ hc.2.2.2.2.2.1]
  simp [Bool.or_assoc]
 ·intro x hx
  simp at hx
  rcases hx with h | h | rfl
  ·exact hl.num x h
  ·exact hr.num x h
  ·simp
theorem ExpS_add {l r : List UInt8} {p q : List Pt} (hl : ExpS l p) (hr : TrmS r q) (o : UInt8) (ho : (o.toNat : Int) = 43 ∨ (o.toNat : Int) = 45) : ExpS (l ++ o :: r) (p ++ q ++ [((o.toNat : Int), 0)]) := by
 have hop : opB o.toNat = true := by rcases ho with h | h <;> rw [h] <;> rfl
 refine join_shape hl hr.1 o hop ?_
 have hj := fin_join hl hr.1 o hop 43 45
 rw [if_neg (by have := hr.2; omega), if_pos (by rcases ho with h | h <;> rw [h] <;> rfl)] at hj
 unfold cutAt
 rw [hj, if_neg (by omega)]
theorem TrmS_mul {l r : List UInt8} {p q : List Pt} (hl : TrmS l p) (hr : FacS r q) (o : UInt8) (ho : (o.toNat : Int) = 42 ∨ (o.toNat : Int) = 47) : TrmS (l ++ o :: r) (p ++ q ++ [((o.toNat : Int), 0)]) := by
 have hop : opB o.toNat = true := by rcases ho with h | h <;> rw [h] <;> rfl
 have hj1 := fin_join hl.1 hr.1 o hop 43 45
 rw [if_neg (by have := hr.2.1; omega), if_neg (by rcases ho with h | h <;> rw [h] <;> decide)] at hj1
 have hj2 := fin_join hl.1 hr.1 o hop 42 47
 rw [if_neg (by have := hr.2.2; omega), if_pos (by rcases ho with h | h <;> rw [h] <;> rfl)] at hj2
 refine ⟨join_shape hl.1 hr.1 o hop ?_, by rw [hj1]; exact hl.2⟩
 unfold cutAt
 rw [hj1, hj2, if_pos hl.2]
theorem neg_fin {e : List UInt8} {ps : List Pt} (he : ExpS e ps) (c : UInt8) (hc : (c.toNat : Int) = 45) (a b p k at_ i : Int) (r : List UInt8) (hk : 0 ≤ k) (hp : stt p) :
  finGo a b p k at_ i (c :: e ++ r) = finGo a b (lst e) k (if k = 0 then upd a b e at_ (i + 1) else at_) (i + 1 + e.length) r := by
 have h1 : dep k (c.toNat : Int) = k := by rw [hc]; simp [dep]
 have h2 : hit a b p k at_ i (c.toNat : Int) = at_ := by
  unfold hit binB
  rw [hp.1]
  have : (p == 41) = false := by simpa using hp.2
  simp [this]
 rw [List.cons_append]
 simp only [finGo, h1, h2]
 rw [he.scan a b _ k at_ (i + 1) r hk (by rw [hc]; exact ⟨rfl, by decide⟩)]
theorem neg_fin0 {e : List UInt8} {ps : List Pt} (he : ExpS e ps) (c : UInt8) (hc : (c.toNat : Int) = 45) (a b : Int) : fin (c :: e) a b = if fin e a b < 0 then -1 else 1 + fin e a b := by
 have := neg_fin he c hc a b (-1) 0 (-1) 0 [] (by omega) stt_start
 have e2 : finGo a b (-1) 0 (-1) 0 (c :: e ++ []) = fin (c :: e) a b := by rw [List.append_nil]; rfl
 rw [← e2, this, if_pos rfl]
 show upd a b e (-1) (0 + 1) = _
 unfold upd
 split <;> omega
theorem FacS_neg {e : List UInt8} {ps : List Pt} (h : FacS e ps) (c : UInt8) (hc : (c.toNat : Int) = 45) : FacS (c :: e) (ps ++ [(126, 0)]) := by
 have he := h.1
 have f1 := neg_fin0 he c hc 43 45
 have f2 := neg_fin0 he c hc 42 47
 rw [if_pos h.2.1] at f1
 rw [if_pos h.2.2] at f2
 obtain ⟨n, hn⟩ := he.wf
 have hpos := he.pos
 have hold : oldB c.toNat = false := by rw [hc]; rfl
 have hcut : cut (c :: e) = (126, [], e) := by
  unfold cut
  have hca : cutAt (c :: e) = -1 := by unfold cutAt; rw [f1, if_pos (by omega), f2]
  rw [hca, if_neg (by omega), if_pos ⟨by simp; omega, by simp [hc]⟩]
  rfl
 refine ⟨⟨⟨n + 1, .inr (.inr (.inl ⟨by rw [hcut], ps, by rw [hcut]; exact hn, rfl⟩))⟩, by simp, ?_, ?_, ?_, ?_, ?_, ?_, ?_⟩, by rw [f1]; omega, by rw [f2]; omega⟩
 ·rw [lst_cons c e hpos]; exact he.ends
 ·intro a b p k at_ i r hk hp
  rw [neg_fin he c hc a b p k at_ i r hk hp, lst_cons c e hpos]
  have hl : i + 1 + (e.length : Int) = i + ((c :: e).length : Int) := by simp; omega
  rw [hl]
  congr 1
  by_cases h0 : k = 0
  ·rw [if_pos h0, if_pos h0]
   unfold upd
   rw [neg_fin0 he c hc a b]
   have g := fin_ge e a b
   by_cases h1 : fin e a b < 0
   ·rw [if_pos h1, if_pos h1, if_pos (by omega)]
   ·rw [if_neg h1, if_neg h1, if_neg (by omega)]; omega
  ·rw [if_neg h0, if_neg h0]
 ·intro x hx
  rw [List.mem_cons] at hx
  rcases hx with rfl | hx
  ·omega
  ·exact he.chars x hx
 ·intro r hr
  rw [List.cons_append]
  exact oldDig_cons_not hold (he.old r hr)
 ·intro row r
  rw [List.cons_append, rch_cons_not _ hold, he.rch, nameB_append]
  simp [nameB, oldB]
 ·intro q r hr
  rw [List.cons_append, strg_cons_not _ (by rw [hc]; rfl), he.sel _ _ hr, selq_append]
  simp [selq, selB]
 ·intro x hx
  simp at hx
  rcases hx with hx | rfl
  ·exact he.num x hx
  ·simp
theorem par_fin {e : List UInt8} {ps : List Pt} (he : ExpS e ps) (c d : UInt8) (hc : (c.toNat : Int) = 40) (hd : (d.toNat : Int) = 41) (a b p k at_ i : Int) (r : List UInt8) (hk : 0 ≤ k) :
  finGo a b p k at_ i ((c :: (e ++ [d])) ++ r) = finGo a b 41 k at_ (i + ((c :: (e ++ [d])).length : Int)) r := by
 have h1 : dep k (c.toNat : Int) = k + 1 := by rw [hc]; simp [dep]
 have h2 : ∀ p q j, hit a b p q at_ j (c.toNat : Int) = at_ := by intro p q j; rw [hc]; simp [hit, binB, opB]
 have h3 : dep (k + 1) (d.toNat : Int) = k := by rw [hd]; simp [dep]
 have h4 : ∀ p q j, hit a b p q at_ j (d.toNat : Int) = at_ := by intro p q j; rw [hd]; simp [hit, binB, opB]
 rw [List.cons_append, List.append_assoc]
 simp only [finGo, h1, h2]
 rw [he.scan a b _ (k + 1) at_ (i + 1) _ (by omega) (by rw [hc]; exact ⟨rfl, by decide⟩), if_neg (by omega)]
 rw [List.cons_append, List.nil_append]
 simp only [finGo, h3, h4]
 rw [hd]
 congr 1
 simp; omega
theorem FacS_par {e : List UInt8} {ps : List Pt} (he : ExpS e ps) (c d : UInt8) (hc : (c.toNat : Int) = 40) (hd : (d.toNat : Int) = 41) : FacS (c :: (e ++ [d])) ps := by
 have f : ∀ a b, fin (c :: (e ++ [d])) a b = -1 := by
  intro a b
  have := par_fin he c d hc hd a b (-1) 0 (-1) 0 [] (by omega)
  simp only [List.append_nil, finGo] at this
  exact this
 obtain ⟨n, hn⟩ := he.wf
 have hpos := he.pos
 have hold : oldB c.toNat = false := by rw [hc]; rfl
 have hold2 : oldB d.toNat = false := by rw [hd]; rfl
 have hcut : cut (c :: (e ++ [d])) = (40, [], e) := by
  unfold cut
  have hca : cutAt (c :: (e ++ [d])) = -1 := by unfold cutAt; rw [f, if_pos (by omega), f]
  rw [hca, if_neg (by omega), if_neg (by rintro ⟨_, h⟩; simp at h; omega), if_pos ⟨by simp; omega, by simp [hc]⟩]
  simp
 have hlst : lst (c :: (e ++ [d])) = 41 := by
  rw [← hd]; exact lst_snoc (c :: e) d
 refine ⟨⟨⟨n + 1, .inr (.inl ⟨by rw [hcut], by rw [hcut]; exact hn⟩)⟩, by simp, .inr hlst, ?_, ?_, ?_, ?_, ?_, he.num⟩, by rw [f]; omega, by rw [f]; omega⟩
 ·intro a b p k at_ i r hk hp
  rw [par_fin he c d hc hd a b p k at_ i r hk, hlst]
  congr 1
  unfold upd
  rw [f, if_pos (show (-1 : Int) < 0 by omega)]
  split <;> rfl
 ·intro x hx
  rw [List.mem_cons, List.mem_append, List.mem_singleton] at hx
  rcases hx with rfl | hx | rfl
  ·omega
  ·exact he.chars x hx
  ·omega
 ·intro r hr
  rw [List.cons_append, List.append_assoc]
  exact oldDig_cons_not hold (he.old _ (oldDig_cons_not hold2 hr))
 ·intro row r
  rw [List.cons_append, List.append_assoc, rch_cons_not _ hold, he.rch, List.cons_append, rch_cons_not _ hold2]
  rfl
 ·intro q r hr
  rw [List.cons_append, List.append_assoc, strg_cons_not _ (by rw [hc]; rfl), he.sel _ _ (by show digB (d.toNat : Int) = false; rw [hd]; rfl), List.cons_append, strg_cons_not _ (by rw [hd]; rfl)]
  rfl
theorem valGo_pos (l : List UInt8) (h : ∀ c ∈ l, digB c.toNat = true) : ∀ n : Int, 0 ≤ n → 0 ≤ valGo n l := by
 induction l with
 | nil => intro n hn; exact hn
 | cons c r ih =>
  intro n hn
  have := h c (by simp)
  simp [digB] at this
  exact ih (fun x hx => h x (by simp [hx])) _ (by omega)
theorem val_pos (l : List UInt8) (h : ∀ c ∈ l, digB c.toNat = true) : 0 ≤ val l := valGo_pos l h 0 (by omega)
def Flat (e : List UInt8) : Prop := ∀ c ∈ e, opB c.toNat = false ∧ ¬ (c.toNat : Int) = 40 ∧ ¬ (c.toNat : Int) = 41
theorem flat_fin (a b : Int) (e : List UInt8) (h : Flat e) : ∀ (p k at_ i : Int) (r : List UInt8), finGo a b p k at_ i (e ++ r) = finGo a b (if e = [] then p else lst e) k at_ (i + e.length) r := by
 induction e with
 | nil => intro p k at_ i r; simp
 | cons c t ih =>
  intro p k at_ i r
  have hc := h c (by simp)
  have h1 : dep k (c.toNat : Int) = k := by simp [dep, hc.2.1, hc.2.2]
  have h2 : hit a b p k at_ i (c.toNat : Int) = at_ := by simp [hit, binB, hc.1]
  rw [List.cons_append]
  simp only [finGo, h1, h2]
  rw [ih (fun x hx => h x (by simp [hx]))]
  have hl : i + 1 + (t.length : Int) = i + ((c :: t).length : Int) := by simp; omega
  rw [hl]
  congr 1
  cases t with
  | nil => simp [lst]
  | cons x y => simp [lst]
theorem dig_flat {c : Int} (h : digB c = true) : opB c = false ∧ ¬ c = 40 ∧ ¬ c = 41 := by simp [digB] at h; simp [opB]; omega
theorem sel_flat {c : Int} (h : selB c = true) : opB c = false ∧ ¬ c = 40 ∧ ¬ c = 41 := by simp [selB] at h; rcases h with (rfl | rfl) | rfl <;> simp [opB]
theorem old_flat {c : Int} (h : oldB c = true) : opB c = false ∧ ¬ c = 40 ∧ ¬ c = 41 := by simp [oldB] at h; rcases h with rfl | rfl <;> simp [opB]
theorem dig_old {c : Int} (h : digB c = true) : oldB c = false := by simp [digB] at h; simp [oldB]; omega
theorem sel_old {c : Int} (h : selB c = true) : oldB c = false := by simp [selB] at h; rcases h with (rfl | rfl) | rfl <;> simp [oldB]
theorem digs_old (ds : List UInt8) (h : ∀ c ∈ ds, digB c.toNat = true) (r : List UInt8) (hr : oldDig r) : oldDig (ds ++ r) := by
 induction ds with
 | nil => exact hr
 | cons c t ih => exact oldDig_cons_not (dig_old (h c (by simp))) (ih (fun x hx => h x (by simp [hx])))
theorem digs_rch (row : Int) (ds : List UInt8) (h : ∀ c ∈ ds, digB c.toNat = true) (r : List UInt8) : rch row (ds ++ r) = rch row r := by
 induction ds with
 | nil => rfl
 | cons c t ih => rw [List.cons_append, rch_cons_not _ (dig_old (h c (by simp))), ih (fun x hx => h x (by simp [hx]))]
theorem dig_sel {c : Int} (h : digB c = true) : selB c = false := by simp [digB] at h; simp [selB]; omega
theorem digs_strg (q : Int → Bool) (ds : List UInt8) (h : ∀ c ∈ ds, digB c.toNat = true) (r : List UInt8) : strg q (ds ++ r) = strg q r := by
 induction ds with
 | nil => rfl
 | cons c t ih => rw [List.cons_append, strg_cons_not _ (dig_sel (h c (by simp))), ih (fun x hx => h x (by simp [hx]))]
theorem dg2_all (ds : List UInt8) (h : ∀ c ∈ ds, digB c.toNat = true) (h1 : 1 ≤ ds.length) (h2 : ds.length ≤ 2) (r : List UInt8) (hr : digB (hd r) = false) : dg2 (ds ++ r) = ds := by
 match ds, h1, h2 with
 | [x], _, _ =>
  have hx := h x (by simp)
  unfold dg2
  cases r with
  | nil => simp [hx]
  | cons y t => simp only [hd] at hr; simp [hx, hr]
 | [x, y], _, _ =>
  have hx := h x (by simp)
  have hy := h y (by simp)
  unfold dg2
  simp [hx, hy]
 | _ :: _ :: _ :: _, _, h2 => simp at h2
theorem lst_mem (e : List UInt8) (h : 0 < e.length) : ∃ c ∈ e, lst e = c.toNat := by
 cases hl : e.getLast? with
 | none => simp at hl; subst hl; simp at h
 | some c => exact ⟨c, List.mem_of_getLast? hl, by simp [lst, hl]⟩
theorem opnd_shape {e : List UInt8} {ps : List Pt} (h : Opnd e ps) : FacS e ps := by
 have hpos : 0 < e.length := by
  rcases h with ⟨h1, _⟩ | ⟨c, ds, rfl, _⟩
  ·omega
  ·simp
 have hflat : Flat e := by
  rcases h with ⟨_, _, hd, _⟩ | ⟨c, ds, rfl, _, hd, hs, _⟩
  ·exact fun c hc => dig_flat (hd c hc)
  ·intro x hx
   rw [List.mem_cons] at hx
   rcases hx with rfl | hx
   ·rcases hs with ⟨hs, _⟩ | ⟨hs, _⟩
    ·exact sel_flat hs
    ·exact old_flat hs
   ·exact dig_flat (hd x hx)
 have hfin : ∀ a b, fin e a b = -1 := by
  intro a b
  have := flat_fin a b e hflat (-1) 0 (-1) 0 []
  rw [List.append_nil] at this
  exact this
 have hlast : digB (lst e) = true := by
  rcases h with ⟨h1, _, hd, _⟩ | ⟨c, ds, rfl, h1, hd, hs, _⟩
  ·obtain ⟨x, hx, he⟩ := lst_mem e hpos
   rw [he]; exact hd x hx
  ·rw [lst_cons c ds (by omega)]
   obtain ⟨x, hx, he⟩ := lst_mem ds (by omega)
   rw [he]; exact hd x hx
 have hhead : ∀ c : Int, ((e.getD 0 0).toNat : Int) = c → ¬ c = 45 ∧ ¬ c = 40 := by
  intro c hc
  match e, hpos, hflat with
  | x :: t, _, hfl =>
   have hx := hfl x (by simp)
   simp at hc
   subst hc
   exact ⟨by intro h; rw [h] at hx; simp [opB] at hx, hx.2.1⟩
 have hcut : cut e = (0, [], e) := by
  unfold cut
  have hca : cutAt e = -1 := by unfold cutAt; rw [hfin, if_pos (by omega), hfin]
  rw [hca, if_neg (by omega), if_neg (fun hx => (hhead _ rfl).1 hx.2), if_neg (fun hx => (hhead _ rfl).2 hx.2)]
 refine ⟨⟨⟨1, .inl ⟨hcut, h⟩⟩, hpos, .inl hlast, ?_, ?_, ?_, ?_, ?_, ?_⟩, by rw [hfin]; omega, by rw [hfin]; omega⟩
 ·intro a b p k at_ i r hk hp
  rw [flat_fin a b e hflat]
  have : ¬ e = [] := by intro h0; subst h0; simp at hpos
  rw [if_neg this]
  congr 1
  unfold upd
  rw [hfin, if_pos (show (-1 : Int) < 0 by omega)]
  split <;> rfl
 ·intro c hc
  rcases h with ⟨_, _, hd, _⟩ | ⟨x, ds, rfl, _, hd, hs, _⟩
  ·have := hd c hc; simp [digB] at this; omega
  ·rw [List.mem_cons] at hc
   rcases hc with rfl | hc
   ·rcases hs with ⟨hs, _⟩ | ⟨hs, _⟩
    ·simp [selB] at hs; omega
    ·simp [oldB] at hs; omega
   ·have := hd c hc; simp [digB] at this; omega
 ·intro r hr
  rcases h with ⟨_, _, hd, _⟩ | ⟨x, ds, rfl, h1, hd, hs, _⟩
  ·exact digs_old e hd r hr
  ·refine ⟨fun _ => ?_, digs_old ds hd r hr⟩
   match ds, h1, hd with
   | y :: t, _, hd => exact hd y (by simp)
 ·intro row r
  rcases h with ⟨_, _, hd, rfl⟩ | ⟨x, ds, rfl, h1, hd, hs, rfl⟩
  ·rw [digs_rch row e hd r]; simp [nameB, oldB]
  ·rcases hs with ⟨hs, _⟩ | ⟨hs, hl⟩
   ·rw [List.cons_append, rch_cons_not _ (sel_old hs), digs_rch row ds hd r]
    simp [nameB, sel_old hs]
   ·obtain ⟨y, rfl⟩ := List.length_eq_one_iff.1 hl
    rw [List.cons_append, List.cons_append, List.nil_append]
    show ((oldB x.toNat && decide (row ≤ (y.toNat : Int) - 48)) || rch row (y :: r)) = _
    rw [rch_cons_not _ (dig_old (hd y (by simp)))]
    simp [nameB, val, valGo, hs]
 ·intro q r hr
  rcases h with ⟨_, _, hd, rfl⟩ | ⟨x, ds, rfl, h1, hd, hs, rfl⟩
  ·rw [digs_strg q e hd r]; simp [selq, selB]
  ·rcases hs with ⟨hs, hl⟩ | ⟨hs, hl⟩
   ·rw [List.cons_append]
    show ((selB x.toNat && q (val (dg2 (ds ++ r)))) || strg q (ds ++ r)) = _
    rw [digs_strg q ds hd r, dg2_all ds hd h1 hl r hr]
    simp [selq, hs]
   ·have hns : selB (x.toNat : Int) = false := (old_c hs).2.2.2.2
    rw [List.cons_append, strg_cons_not _ hns, digs_strg q ds hd r]
    simp [selq, hns]
 ·intro p hp
  rcases h with ⟨_, _, hd, rfl⟩ | ⟨x, ds, rfl, h1, hd, hs, rfl⟩
  ·simp at hp; subst hp; exact val_pos e hd
  ·simp at hp; subst hp; exact val_pos ds hd
def Got (S : List UInt8 → List Pt → Prop) (H : List UInt8 → Prop) (l : List UInt8) (ok : Bool) (l' : List UInt8) (ps : List Pt) : Prop :=
 ∃ x, l = x ++ l' ∧ (ok = true → (∀ d k i : Int, 0 ≤ k → plc 6 d k i l = plc 11 0 k (i + x.length) l') ∧ S (bare x) ps ∧ H l') ∧ (ok = false → ∀ d k i : Int, 0 ≤ k → plc 6 d k i l = i + x.length)
def Fac := Got FacS (fun _ => True)
def Trm := Got TrmS (fun l => ¬ hd l = 32 ∧ ¬ hd l = 42 ∧ ¬ hd l = 47)
def Exp := Got ExpS (fun l => ¬ hd l = 32 ∧ opB (hd l) = false)
theorem fac_blanks {x l l' : List UInt8} {ok : Bool} {ps : List Pt} {S : List UInt8 → List Pt → Prop} {H : List UInt8 → Prop} (hx : Blanks x) (h : Got S H l ok l' ps) : Got S H (x ++ l) ok l' ps := by
 obtain ⟨y, rfl, h1, h2⟩ := h
 refine ⟨x ++ y, by simp, fun ho => ⟨fun d k i hk => ?_, ?_, (h1 ho).2.2⟩, fun ho d k i hk => ?_⟩
 ·rw [plc_skip 6 (by simp) x hx, (h1 ho).1 d k _ hk]
  congr 1
  simp; omega
 ·rw [bare_append, bare_blanks hx]; exact (h1 ho).2.1
 ·rw [plc_skip 6 (by simp) x hx, h2 ho d k _ hk]
  simp; omega
theorem fac_opnd {e l' : List UInt8} {ps : List Pt} (h : Opnd e ps) (he : ∀ d k i : Int, plc 6 d k i (e ++ l') = plc 11 0 k (i + e.length) l') : Fac (e ++ l') true l' ps := by
 have hs := opnd_shape h
 refine ⟨e, rfl, fun _ => ⟨fun d k i _ => he d k i, ?_, trivial⟩, fun h0 => by cases h0⟩
 have : bare e = e := by
  unfold bare; rw [List.filter_eq_self]; intro c hc
  have := (hs.1.chars c hc).1
  simpa using this
 rw [this]; exact hs
theorem bare_cons {c : UInt8} (h : ¬ c.toNat = 32) (l : List UInt8) : bare (c :: l) = c :: bare l := by
 rw [show c :: l = [c] ++ l from rfl, bare_append, bare_other h]; rfl
theorem fac_neg {c : UInt8} (hc : (c.toNat : Int) = 45) {l l' : List UInt8} {ok : Bool} {ps : List Pt} (h : Fac l ok l' ps) : Fac (c :: l) ok l' (ps ++ [(126, 0)]) := by
 obtain ⟨y, rfl, h1, h2⟩ := h
 refine ⟨c :: y, rfl, fun ho => ⟨fun d k i hk => ?_, ?_, trivial⟩, fun ho d k i hk => ?_⟩
 ·rw [plc_neg hc, (h1 ho).1 d k _ hk]
  congr 1
  simp; omega
 ·rw [bare_cons (by omega)]; exact FacS_neg (h1 ho).2.1 c hc
 ·rw [plc_neg hc, h2 ho d k _ hk]
  simp; omega
theorem fac_par_no {c : UInt8} (hc : (c.toNat : Int) = 40) {l l' : List UInt8} {ps ps' : List Pt} (h : Exp l false l' ps) : Fac (c :: l) false l' ps' := by
 obtain ⟨y, rfl, h1, h2⟩ := h
 refine ⟨c :: y, rfl, (fun h0 => by cases h0), fun _ d k i hk => ?_⟩
 rw [plc_par hc, h2 rfl d (k + 1) _ (by omega)]
 simp; omega
theorem fac_par_open {c : UInt8} (hc : (c.toNat : Int) = 40) {l l' : List UInt8} {ps ps' : List Pt} (h : Exp l true l' ps) (h41 : ¬ hd l' = 41) : Fac (c :: l) false l' ps' := by
 obtain ⟨y, rfl, h1, h2⟩ := h
 have h3 := (h1 rfl).2.2
 refine ⟨c :: y, rfl, (fun h0 => by cases h0), fun _ d k i hk => ?_⟩
 rw [plc_par hc, (h1 rfl).1 d (k + 1) _ (by omega), plc_fail11 l' h3.1 h3.2 h41 _ _ _ hk]
 simp; omega
theorem fac_par_yes {c e : UInt8} (hc : (c.toNat : Int) = 40) (he : (e.toNat : Int) = 41) {l l' : List UInt8} {ps : List Pt} (h : Exp l true (e :: l') ps) : Fac (c :: l) true l' ps := by
 obtain ⟨y, rfl, h1, h2⟩ := h
 refine ⟨c :: (y ++ [e]), by simp, fun _ => ⟨fun d k i hk => ?_, ?_, trivial⟩, fun h0 => by cases h0⟩
 ·rw [plc_par hc, (h1 rfl).1 d (k + 1) _ (by omega), plc_shut he _ _ _ hk]
  congr 1
  simp; omega
 ·rw [bare_cons (by omega), bare_append, bare_other (by omega)]; exact FacS_par (h1 rfl).2.1 c e hc he
theorem trm_fac {l x l' : List UInt8} {ps : List Pt} (h : Fac l true (x ++ l') ps) (hx : Blanks x) : Got TrmS (fun _ => True) l true l' ps := by
 obtain ⟨y, rfl, h1, h2⟩ := h
 refine ⟨y ++ x, by simp, fun _ => ⟨fun d k i hk => ?_, ?_, trivial⟩, fun h0 => by cases h0⟩
 ·rw [(h1 rfl).1 d k _ hk, plc_skip 11 (by simp) x hx]
  congr 1
  simp; omega
 ·rw [bare_append, bare_blanks hx, List.append_nil]; exact (h1 rfl).2.1.trm
theorem trm_no {l l' : List UInt8} {ps ps' : List Pt} {S : List UInt8 → List Pt → Prop} {H : List UInt8 → Prop} {S' : List UInt8 → List Pt → Prop} {H' : List UInt8 → Prop} (h : Got S H l false l' ps) : Got S' H' l false l' ps' := by
 obtain ⟨y, rfl, h1, h2⟩ := h
 exact ⟨y, rfl, (fun h0 => by cases h0), h2⟩
theorem trm_end {S : List UInt8 → List Pt → Prop} {H : List UInt8 → Prop} {l l' : List UInt8} {ps : List Pt} (h : Got S (fun _ => True) l true l' ps) (hh : H l') : Got S H l true l' ps := by
 obtain ⟨y, rfl, h1, h2⟩ := h
 exact ⟨y, rfl, fun _ => ⟨(h1 rfl).1, (h1 rfl).2.1, hh⟩, h2⟩
theorem trm_mul {o : UInt8} (ho : (o.toNat : Int) = 42 ∨ (o.toNat : Int) = 47) {l r x l' : List UInt8} {p q : List Pt} (h : Got TrmS (fun _ => True) l true (o :: r) p) (hf : Fac r true (x ++ l') q) (hx : Blanks x) : Got TrmS (fun _ => True) l true l' (p ++ q ++ [((o.toNat : Int), 0)]) := by
 obtain ⟨y, rfl, h1, h2⟩ := h
 obtain ⟨z, rfl, g1, g2⟩ := hf
 have hop : opB o.toNat = true := by rcases ho with h | h <;> rw [h] <;> rfl
 refine ⟨y ++ o :: (z ++ x), by simp, fun _ => ⟨fun d k i hk => ?_, ?_, trivial⟩, fun h0 => by cases h0⟩
 ·rw [(h1 rfl).1 d k _ hk, plc_op hop, (g1 rfl).1 _ k _ hk, plc_skip 11 (by simp) x hx]
  congr 1
  simp; omega
 ·rw [bare_append, bare_cons (by omega), bare_append, bare_blanks hx, List.append_nil]; exact TrmS_mul (h1 rfl).2.1 (g1 rfl).2.1 o ho
theorem op_no {o : UInt8} (hop : opB o.toNat = true) {S : List UInt8 → List Pt → Prop} {H : List UInt8 → Prop} {S' : List UInt8 → List Pt → Prop} {H' : List UInt8 → Prop} {S2 : List UInt8 → List Pt → Prop} {H2 : List UInt8 → Prop} {l r l' : List UInt8} {p q p' : List Pt} (h : Got S H l true (o :: r) p) (hf : Got S' H' r false l' q) : Got S2 H2 l false l' p' := by
 obtain ⟨y, rfl, h1, h2⟩ := h
 obtain ⟨z, rfl, g1, g2⟩ := hf
 refine ⟨y ++ o :: z, by simp, (fun h0 => by cases h0), fun _ d k i hk => ?_⟩
 rw [(h1 rfl).1 d k _ hk, plc_op hop, g2 rfl _ k _ hk]
 simp; omega
theorem exp_add {o : UInt8} (ho : (o.toNat : Int) = 43 ∨ (o.toNat : Int) = 45) {l r l' : List UInt8} {p q : List Pt} (h : Got ExpS (fun _ => True) l true (o :: r) p) (hf : Trm r true l' q) : Got ExpS (fun l => ¬ hd l = 32 ∧ ¬ hd l = 42 ∧ ¬ hd l = 47) l true l' (p ++ q ++ [((o.toNat : Int), 0)]) := by
 obtain ⟨y, rfl, h1, h2⟩ := h
 obtain ⟨z, rfl, g1, g2⟩ := hf
 have hop : opB o.toNat = true := by rcases ho with h | h <;> rw [h] <;> rfl
 refine ⟨y ++ o :: z, by simp, fun _ => ⟨fun d k i hk => ?_, ?_, (g1 rfl).2.2⟩, fun h0 => by cases h0⟩
 ·rw [(h1 rfl).1 d k _ hk, plc_op hop, (g1 rfl).1 _ k _ hk]
  congr 1
  simp; omega
 ·rw [bare_append, bare_cons (by omega)]; exact ExpS_add (h1 rfl).2.1 (g1 rfl).2.1 o ho
theorem exp_trm {l l' : List UInt8} {ps : List Pt} (h : Trm l true l' ps) : Got ExpS (fun l => ¬ hd l = 32 ∧ ¬ hd l = 42 ∧ ¬ hd l = 47) l true l' ps := by
 obtain ⟨y, rfl, h1, h2⟩ := h
 exact ⟨y, rfl, fun _ => ⟨(h1 rfl).1, (h1 rfl).2.1.1, (h1 rfl).2.2⟩, h2⟩
theorem got_any {S : List UInt8 → List Pt → Prop} {H : List UInt8 → Prop} {l l' : List UInt8} {ok : Bool} {ps : List Pt} (h : Got S H l ok l' ps) : Got S (fun _ => True) l ok l' ps := by
 obtain ⟨y, rfl, h1, h2⟩ := h
 exact ⟨y, rfl, fun ho => ⟨(h1 ho).1, (h1 ho).2.1, trivial⟩, h2⟩
end Db
namespace Go.Proofs.YtdchbenfccofpaaGreatDoor
open Go.RowKit Db
theorem retI {k : IntKind} {a b : Int} (h : a = b) : Ending.returned (.int k a) = .returned (.int k b) := by rw [h]
def cellsP (ps : List Pt) : List Value := ps.flatMap fun p => [.int .u8 p.1, .int .i64 p.2]
theorem cellsP_append (p q : List Pt) : cellsP (p ++ q) = cellsP p ++ cellsP q := by simp [cellsP]
theorem cellsP_length (p : List Pt) : (cellsP p).length = p.length * 2 := by
 induction p with
 | nil => rfl
 | cons x t ih => simp [cellsP] at ih ⊢; omega
structure Rd (w : World) (b : Nat) (t : ByteArray) (at_ : Nat) (v : Value) (ps : List Pt) : Prop where
 blk : Blk w b #[.string t, .int .i64 at_, v] 191
 own : w.ownsRow (b + 1) 197 2 v ps.length (cellsP ps)
 le : at_ ≤ t.size
 cnt : ps.length ≤ at_
 sz : t.size ≤ 200
def XR (b : Nat) (v : Value) (k : Nat) : Prop := k = b ∨ some k = v.ownBlock
structure RdR (b : Nat) (t : ByteArray) (v : Value) (w w' : World) (at_ : Nat) (v' : Value) (ps : List Pt) : Prop where
 rd : Rd w' b t at_ v' ps
 frm : Frm w.heap.size (XR b v) w w'
 own : v'.ownBlock = v.ownBlock ∨ ∀ k, v'.ownBlock = some k → w.heap.size ≤ k
theorem RdR.refl {b : Nat} {t : ByteArray} {v : Value} {w : World} {at_ : Nat} {ps : List Pt} (h : Rd w b t at_ v ps) : RdR b t v w w at_ v ps := ⟨h, Frm.refl _ _ _, .inl rfl⟩
theorem RdR.trans {b : Nat} {t : ByteArray} {v v1 v2 : Value} {w w1 w2 : World} {a1 a2 : Nat} {p1 p2 : List Pt} (h : RdR b t v w w1 a1 v1 p1) (k : RdR b t v1 w1 w2 a2 v2 p2) : RdR b t v w w2 a2 v2 p2 := by
 refine ⟨k.rd, h.frm.trans (k.frm.mono h.frm.size ?_), ?_⟩
 ·intro j hj hx
  rcases hx with hx | hx
  ·exact .inl hx
  ·rcases h.own with e | e
   ·exact .inr (by rw [← e]; exact hx)
   ·have := e j hx.symm; omega
 ·rcases k.own with e | e
  ·rcases h.own with f | f
   ·exact .inl (e.trans f)
   ·exact .inr (fun j hj => f j (e ▸ hj))
  ·exact .inr (fun j hj => Nat.le_trans h.frm.size (e j hj))
theorem Rd.move {b : Nat} {t : ByteArray} {v : Value} {w w1 : World} {a a' : Nat} {ps : List Pt} (h : Rd w b t a v ps) (hb : Below w.heap.size w w1) (ha : a' ≤ t.size) (hc : ps.length ≤ a') : RdR b t v w (w1.setCell ⟨b, 1, none⟩ (.int .i64 a')) a' v ps := by
 refine ⟨⟨?_, ?_, ha, hc, h.sz⟩, ?_, .inl rfl⟩
 ·have := (h.blk.kept hb).set 1 (.int .i64 a')
  simpa using this
 ·exact ownsRow_setCell_below (oBelow h.own hb) (by simp) _
 ·exact hb.frm.setCell (.inr (.inl rfl)) _
theorem Rd.draws {b : Nat} {t : ByteArray} {v : Value} {w : World} {a : Nat} {ps : List Pt} (h : Rd w b t a v ps) (n : Nat) : RdR b t v w (w.drewN n) a v ps :=
 ⟨⟨h.blk, h.own, h.le, h.cnt, h.sz⟩, (Frm.refl _ _ _).drewN n, .inl rfl⟩
theorem RdR.draws {b : Nat} {t : ByteArray} {v v' : Value} {w w1 : World} {a : Nat} {ps : List Pt} (h : RdR b t v w w1 a v' ps) (n : Nat) : RdR b t v w (w1.drewN n) a v' ps := h.trans (h.rd.draws n)
theorem Rd.below {b : Nat} {t : ByteArray} {v : Value} {w w1 : World} {a : Nat} {ps : List Pt} (h : Rd w b t a v ps) (hb : Below w.heap.size w w1) : RdR b t v w w1 a v ps :=
 ⟨⟨h.blk.kept hb, oBelow h.own hb, h.le, h.cnt, h.sz⟩, hb.frm, .inl rfl⟩
theorem RdR.move {b : Nat} {t : ByteArray} {v v' : Value} {w w1 : World} {a a' : Nat} {ps : List Pt} (h : RdR b t v w w1 a v' ps) (ha : a' ≤ t.size) (hc : ps.length ≤ a') : RdR b t v w (w1.setCell ⟨b, 1, none⟩ (.int .i64 a')) a' v' ps := h.trans (h.rd.move (Below.refl _ _) ha hc)
theorem Rd.c0 {w : World} {b : Nat} {t : ByteArray} {a : Nat} {v : Value} {ps : List Pt} (h : Rd w b t a v ps) : w.cell? ⟨b, 0, none⟩ = some (.string t) := h.blk.cell 0
theorem Rd.c1 {w : World} {b : Nat} {t : ByteArray} {a : Nat} {v : Value} {ps : List Pt} (h : Rd w b t a v ps) : w.cell? ⟨b, 1, none⟩ = some (.int .i64 a) := h.blk.cell 1
theorem Rd.c2 {w : World} {b : Nat} {t : ByteArray} {a : Nat} {v : Value} {ps : List Pt} (h : Rd w b t a v ps) : w.cell? ⟨b, 2, none⟩ = some v := h.blk.cell 2
theorem Rd.z1 {w : World} {b : Nat} {t : ByteArray} {a : Nat} {v : Value} {ps : List Pt} (h : Rd w b t a v ps) : w.frozen? ⟨b, 1, none⟩ = false := h.blk.frozen 1
theorem Rd.z2 {w : World} {b : Nat} {t : ByteArray} {a : Nat} {v : Value} {ps : List Pt} (h : Rd w b t a v ps) : w.frozen? ⟨b, 2, none⟩ = false := h.blk.frozen 2
theorem blanks_snoc (t : ByteArray) (p k : Nat) (x : List UInt8) (hk : k < t.size) (h32 : t[k].toNat = 32) (h : (L t).drop p = x ++ (L t).drop k) (hx : Blanks x) : (L t).drop p = (x ++ [t[k]]) ++ (L t).drop (k + 1) ∧ Blanks (x ++ [t[k]]) := by
 refine ⟨by rw [h, L_drop t k hk]; simp, ?_⟩
 intro c hc
 simp at hc
 rcases hc with hc | rfl
 ·exact hx c hc
 ·exact h32
theorem hd_drop (t : ByteArray) (k : Nat) (hk : k < t.size) : hd ((L t).drop k) = (t[k].toNat : Int) := by rw [L_drop t k hk]; rfl
theorem hd_end (t : ByteArray) (k : Nat) (hk : t.size ≤ k) : hd ((L t).drop k) = 0 := by rw [L_drop_end t k hk]; rfl
theorem skipBlanks_any (b : Nat) (t : ByteArray) (p : Nat) (v : Value) (ps : List Pt) (w : World) (h : Rd w b t p v ps) :
  Calls Tryz.prog 213 #[.pointer (some ⟨b, 0, none⟩)] w fun e w' => e = .returned (.tuple #[]) ∧ ∃ p' x, p ≤ p' ∧ RdR b t v w w' p' v ps ∧ (L t).drop p = x ++ (L t).drop p' ∧ Blanks x ∧ ¬ hd ((L t).drop p') = 32 := by
 have H := hI h
 have hsz := h.sz
 clear h
 go_enter Tryz.func213, Tryz.ntmps213
 go_wp2_with fail
 go_loopg [] (t.size - p) (fun m wr => ∃ k x, p ≤ k ∧ k ≤ t.size ∧ m = t.size - k ∧ Hid (RdR b t v w wr k v ps) ∧ Hid ((L t).drop p = x ++ (L t).drop k) ∧ Hid (Blanks x))
 case atStart => exact ⟨p, [], Nat.le_refl _, H.u.le, rfl, RdR.refl H.u, rfl, by intro c hc; cases hc⟩
 case round =>
  obtain ⟨k, x, hpk, hk, rfl, Hr, Hx, Hb⟩ := hrel
  have c0 := Hr.u.rd.c0
  have c1 := Hr.u.rd.c1
  have z1 := Hr.u.rd.z1
  by_cases hlt : k < t.size
  ·have d1 : decide ((k : Int) < (t.size : Int)) = true := by simp; omega
   by_cases h32 : t[k].toNat = 32
   ·have e32 : ((t[k].toNat : Int) == 32) = true := by simp; omega
    have Hs := hI (blanks_snoc t p k x hlt h32 Hx.u Hb.u)
    go_wp2_with fail
    go_quiet (fail)
    go_wp2_with fail
    go_roundg (t.size - (k + 1))
    case measure => omega
    case rel =>
     refine ⟨k + 1, _, by omega, by omega, rfl, ?_, Hs.u.1, Hs.u.2⟩
     have := (Hr.u.draws nq).move (a' := k + 1) (by omega) (by have := Hr.u.rd.cnt; omega)
     show RdR _ _ _ _ _ _ _ _
     simpa using this
   ·have e32 : ((t[k].toNat : Int) == 32) = false := by simp; omega
    have Hn : Hid (¬ hd ((L t).drop k) = 32) := by show ¬ _; rw [hd_drop t k hlt]; omega
    go_wp2_with fail
    go_quiet (fail)
    go_wp2_with fail
    go_end0
    exact ⟨rfl, k, x, hpk, Hr.u.draws _, Hx.u, Hb.u, Hn.u⟩
  ·have d1 : decide ((k : Int) < (t.size : Int)) = false := by simp; omega
   have Hn : Hid (¬ hd ((L t).drop k) = 32) := by show ¬ _; rw [hd_end t k (by omega)]; omega
   go_wp2_with fail
   go_quiet (fail)
   go_wp2_with fail
   go_end0
   exact ⟨rfl, k, x, hpk, Hr.u.draws _, Hx.u, Hb.u, Hn.u⟩
structure Skp (t : ByteArray) (p p' : Nat) (x : List UInt8) : Prop where
 le : p ≤ p'
 eq : (L t).drop p = x ++ (L t).drop p'
 bl : Blanks x
 nb : ¬ hd ((L t).drop p') = 32
theorem next_any (b : Nat) (t : ByteArray) (p : Nat) (v : Value) (ps : List Pt) (w : World) (h : Rd w b t p v ps) :
  Calls Tryz.prog 197 #[.pointer (some ⟨b, 0, none⟩)] w fun e w' => ∃ p' x, e = .returned (.int .u8 (hd ((L t).drop p'))) ∧ RdR b t v w w' p' v ps ∧ Skp t p p' x := by
 have H := hI h
 have hsz := h.sz
 clear h
 go_enter Tryz.func197, Tryz.ntmps197
 go_wp2_with fail
 refine (skipBlanks_any b t p v ps _ H.u).mono ?_
 rintro e w1 ⟨rfl, p', x, hp, hr, hx, hb, hn⟩
 have c0 := hr.rd.c0
 have c1 := hr.rd.c1
 have Hr := hI hr
 have Hs : Hid (Skp t p p' x) := ⟨hp, hx, hb, hn⟩
 clear hr hx hb hn hp
 by_cases hlt : p' < t.size
 ·have d1 : decide ((p' : Int) < (t.size : Int)) = true := by simp; omega
  have Hh := hI (hd_drop t p' hlt)
  go_wp2_with fail
  go_quiet (fail)
  go_wp2_with fail
  go_quiet (fail)
  go_wp2_with fail
  go_ret
  exact ⟨p', x, retI Hh.u.symm, (Hr.u.draws _).draws _, Hs.u⟩
 ·have d1 : decide ((p' : Int) < (t.size : Int)) = false := by simp; omega
  have Hh := hI (hd_end t p' (by omega))
  go_wp2_with fail
  go_quiet (fail)
  go_wp2_with fail
  go_ret
  exact ⟨p', x, retI Hh.u.symm, Hr.u.draws _, Hs.u⟩
theorem accept_any (b : Nat) (t : ByteArray) (p : Nat) (v : Value) (ps : List Pt) (c : Int) (w : World) (h : Rd w b t p v ps) (hc : 0 < c) :
  Calls Tryz.prog 171 #[.pointer (some ⟨b, 0, none⟩), .int .u8 c] w fun e w' => ∃ p' x, Skp t p p' x ∧
   ((¬ hd ((L t).drop p') = c ∧ e = .returned (.bool false) ∧ RdR b t v w w' p' v ps) ∨ (∃ y, (y.toNat : Int) = c ∧ (L t).drop p' = y :: (L t).drop (p' + 1) ∧ e = .returned (.bool true) ∧ RdR b t v w w' (p' + 1) v ps)) := by
 have H := hI h
 have hsz := h.sz
 clear h
 go_enter Tryz.func171, Tryz.ntmps171
 go_wp2_with fail
 refine (next_any b t p v ps _ H.u).mono ?_
 rintro e w1 ⟨p', x, rfl, hr, hs⟩
 have c1 := hr.rd.c1
 have z1 := hr.rd.z1
 have hle := hr.rd.le
 have Hr := hI hr
 have Hs := hI hs
 clear hr hs
 obtain ⟨y, hy⟩ : ∃ y, hd ((L t).drop p') = y := ⟨_, rfl⟩
 rw [hy]
 have Hy := hI hy
 clear hy
 by_cases hyc : y = c
 ·have e1 : (y != c) = false := by simp [hyc]
  have hlt : p' < t.size := by
   have := Hy.u
   by_cases h : p' < t.size
   ·exact h
   ·rw [hd_end t p' (by omega)] at this; omega
  have Hl := hI (L_drop t p' hlt)
  have Hyc : Hid ((t[p'].toNat : Int) = c) := by show _ = _; rw [← hd_drop t p' hlt, Hy.u, hyc]
  clear hyc
  go_wp2_with fail
  go_ret
  refine ⟨p', x, Hs.u, .inr ⟨t[p'], Hyc.u, Hl.u, rfl, ?_⟩⟩
  have := Hr.u.move (a' := p' + 1) (by omega) (by have := Hr.u.rd.cnt; omega)
  simpa using this
 ·have e1 : (y != c) = true := by simp [bne, hyc]
  have Hyc := hI hyc
  go_wp2_with fail
  go_ret
  exact ⟨p', x, Hs.u, .inl ⟨by rw [Hy.u]; exact Hyc.u, rfl, Hr.u⟩⟩
end Go.Proofs.YtdchbenfccofpaaGreatDoor
