/- Resumed: the walk. Crashes: where a crash comes among the acts' ends; the beginning of a round. Crashes: a round's acts. Crashes: the walk. Rounds that came in: from the reading of the argument to the lists that a walk wants. -/
import Derived.Test.YtdchbenfccofpabGreatDoorC13
import Derived.Test.YtdchbenfccofpabGreatDoorC15
import Derived.Test.YtdchbenfccofpabGreatDoorC07
namespace Go.Proofs.YtdchbenfccofpabGreatDoor
open Go.RowKit Db

theorem Rec.frS {w w' : World} {B B' q : Nat} {s : Bk} (h : Rec w B q s) (hf : FrT B' [9] w w') : Rec w' B q s := by
  obtain ⟨vp, vc, vt, tv, h⟩ := h
  exact ⟨_, _, _, _, h.frT hf (by decide) (by decide)⟩
theorem Led.frS {w w' : World} {B B' p : Nat} {s : Bk} (h : Led w B p s) (hf : FrT B' [9] w w') : Led w' B p s := by
  obtain ⟨va, vt, tv, d, h⟩ := h
  exact ⟨_, _, _, _, h.frT hf (by decide) (by decide)⟩
/-- What is mounted of a book's disk is that book. -/
theorem LogW.mnt {rs : List Rc} {n : Nat} {t : KS} (h : LogW rs n t) {u : ByteArray} (hu : L u = dskL rs) : ImgOk (L u) ∧ (mntS (L u)).s = t.s ∧ (mntS (L u)).u = t.u := by
  obtain ⟨t', h1, h2, h3⟩ := h.log
  have hm := h1.mount (by have := h.small; omega)
  rw [hu]
  exact ⟨hm.2, by rw [hm.1, h2], by rw [hm.1, h3]⟩
theorem LogW.oks {rs : List Rc} {n : Nat} {t : KS} (h : LogW rs n t) : ∀ r ∈ rs, RcOk r := by
  obtain ⟨t', h1, h2, h3⟩ := h.log
  exact h1.facts.2.2.1
theorem dsk_pos {rs : List Rc} (h : ∀ r ∈ rs, RcOk r) : ∀ s ∈ dskS rs, s.size = 64 := by
  intro s hs
  unfold dskS at hs
  rw [List.mem_append] at hs
  rcases hs with hs | hs
  · rw [List.mem_map] at hs
    obtain ⟨r, hr, rfl⟩ := hs
    exact secA_size (h r hr)
  · rw [List.eq_of_mem_replicate hs]; decide
set_option maxRecDepth 100000 in
set_option maxHeartbeats 16000000 in
theorem resumed_walk (v : Value) (xs : List KAct) (v' : Value) (ys : List KAct) (t : ByteArray) (w : World) (h : KActsAt w w.heap.size v xs) (hlen : xs.length ≤ 9223372036854775800) (h' : KActsAt w w.heap.size v' ys) (hlen' : ys.length ≤ 9223372036854775800) (hm : t.size ≤ maxLen) (ht : Tab w) :
    Calls Tryz.prog 5 #[v, v', .string t] w fun e w' => e = .returned (.bool true) ∧ Below w.heap.size w w' := by
  have HT : Hid (∀ w', Below w.heap.size w w' → Tab w') := fun w' hf => ht.below hf
  obtain ⟨ao, cap, rfl⟩ : ∃ ao cap, v = .slice ao xs.length cap := by obtain ⟨⟨ao, cap, rfl, _⟩, _⟩ := h; exact ⟨ao, cap, rfl⟩
  obtain ⟨ao', cap', rfl⟩ : ∃ ao cap, v' = .slice ao ys.length cap := by obtain ⟨⟨ao, cap, rfl, _⟩, _⟩ := h'; exact ⟨ao, cap, rfl⟩
  have H := hide h
  have H' := hide h'
  have Hm := hide hm
  have Hr := hide (ready_any w ht)
  clear h h' ht hm
  go_enter Tryz.func5, Tryz.ntmps5
  go_wp2_with fail
  refine (unhide Hr).mono ?_
  rintro e w1 ⟨q0, p0, rfl, _, hb1⟩
  have Hb1 := hide hb1
  have hsz1 := hb1.size
  clear hb1 Hr
  go_wp2_with fail
  refine (dayNew_any w1).mono ?_
  rintro e w2 ⟨p, rfl, hn2, hb2⟩
  have HL2 : Hid (LedW w2 w.heap.size p 0 [] bk0) := hn2.base hsz1
  have Hb2 := hide ((unhide Hb1).then' hsz1 hb2)
  have hsz2 := (unhide Hb2).size
  clear hn2 hb2
  go_wp2_with fail
  refine (blank_any w2).mono ?_
  rintro e w3 ⟨q, rfl, hr3, hb3⟩
  have HP3 : Hid (KP w3 w.heap.size q p ⟨bk0, 0, []⟩) := ⟨hr3.base hsz2, (unhide HL2).kept hb3⟩
  have Hb3 := hide ((unhide Hb2).then' hsz2 hb3)
  clear hr3 hb3 HL2
  go_wp2_with fail
  go_loopg [9, 12] xs.length (fun m vo i wr => ∃ j : Nat, j ≤ xs.length ∧ m = xs.length - j ∧ i = .int .i64 j ∧ vo = .bool true ∧ Hid (KP wr w.heap.size q p (krun ⟨bk0, 0, []⟩ (xs.take j))) ∧ Hid (Below w.heap.size w wr))
  case atStart => exact ⟨0, by omega, rfl, rfl, rfl, unhide HP3, unhide Hb3⟩
  case round =>
    obtain ⟨j, hj, rfl, rfl, rfl, HP, Hb⟩ := hrel
    by_cases hlt : j < xs.length
    · obtain ⟨x, hx⟩ : ∃ x, xs[j]? = some x := ⟨xs[j], List.getElem?_eq_getElem hlt⟩
      have hat := (unhide H).below (unhide Hb)
      have Hst := hide (krun_step (t := ⟨bk0, 0, []⟩) hx)
      have hok := hat.oks x (List.mem_of_getElem? hx)
      obtain ⟨⟨ao'', cap'', e1, hr⟩, _⟩ := hat
      simp only [Value.slice.injEq, true_and] at e1
      obtain ⟨rfl, rfl⟩ := e1
      have hr2 := hr.resolve_left (by rintro rfl; simp at hx)
      obtain ⟨b, off, rfl, hbl, hc⟩ := hr2
      obtain ⟨d0, d1, d2, d3⟩ := hc j x hx
      have hjj : (j : Int) < (xs.length : Int) := by omega
      have hsz := (unhide Hb).size
      obtain ⟨tt, htt⟩ : ∃ tt, krun ⟨bk0, 0, []⟩ (xs.take j) = tt := ⟨_, rfl⟩
      rw [htt] at HP Hst
      obtain ⟨kd, xa, xb, xao, xcap, ls⟩ := x
      simp only at d0 d1 d2 d3 hok
      have Hdo := hide (says_any w.heap.size q p tt.u tt.ws tt.s kd xa xb xao xcap ls wr (unhide HP).rec' (unhide HP).led (fun w' hf => hok.at'.belowK (hf.below hsz) hok.lo) hok.few)
      clear hr hc hx hok htt
      go_wp2_with fail
      refine (unhide Hdo).mono ?_
      rintro e w4 ⟨rfl, h1, h2, h3⟩
      have HP2 : Hid (KP w4 w.heap.size q p (krun ⟨bk0, 0, []⟩ (xs.take (j + 1)))) := by show KP _ _ _ _ _; rw [unhide Hst]; exact ⟨h1, h2⟩
      have Hb4 : Hid (Below w.heap.size w w4) := (unhide Hb).trans (h3.below hsz)
      clear h1 h2 h3 Hdo
      go_wp2_with fail
      go_roundg (xs.length - (j + 1))
      case measure => omega
      case rel => exact ⟨j + 1, by omega, rfl, by go_num, rfl, unhide HP2, unhide Hb4⟩
    · obtain rfl : j = xs.length := by omega
      obtain ⟨rs, hrs⟩ := LogW.start.run xs
      have HP4 := unhide HP
      rw [List.take_length] at HP4
      obtain ⟨tt, htt⟩ : ∃ tt, krun ⟨bk0, 0, []⟩ xs = tt := ⟨_, rfl⟩
      rw [htt] at HP4 hrs
      have HQ := hide HP4
      have Hrs := hide hrs
      have hws := hrs.ws
      have hsm := hrs.small
      have hwl := hws.len
      rw [List.drop_zero] at hws hwl
      have HW := hide hws
      have Hpr := hide (hws.pr hrs.oks (by omega))
      have hsz := (unhide Hb).size
      have hw100 : tt.ws.length ≤ 100000 := by omega
      clear HP htt hrs hws HP4 HP3 Hb3 hwl
      go_wp2_with fail
      refine (empty_any wr).mono ?_
      rintro e w4 ⟨pd, rfl, hd4, hb4⟩
      have HD4 := hide hd4
      have HQ4 := hide ((unhide HQ).kept hb4)
      have Hb4 := hide ((unhide Hb).then' hsz hb4)
      have hsz4 := (unhide Hb4).size
      clear hd4 hb4 HQ
      go_wp2_with fail
      refine (dayWrites_any w.heap.size p tt.u tt.ws tt.s w4 (unhide HQ4).led).mono ?_
      rintro e w5 ⟨⟨aw, cw, rfl, k1⟩, k2, k3⟩
      have HL5 := hide k2.led
      have HR5 := hide ((unhide HQ4).rec'.frB k3)
      have HD5 := hide ((unhide HD4).frT k3 (by decide) (by decide))
      have HO5 := hide k1
      have Hb5 : Hid (Below w.heap.size w w5) := (unhide Hb4).trans (k3.below hsz4)
      have hsz5 := (unhide Hb5).size
      clear k1 k2 k3 HD4 HQ4
      go_wp2_with fail
      refine (proper_any _ aw cw tt.ws w5 (unhide HO5) (unhide Hpr) hw100).mono ?_
      rintro e w6 ⟨rfl, hb6⟩
      have HL6 := hide ((unhide HL5).kept hb6)
      have HR6 := hide ((unhide HR5).kept hb6)
      have HD6 := hide ((unhide HD5).kept hb6)
      have HO6 := hide (ownsRow_below (unhide HO5) hb6)
      have Hb6 := hide ((unhide Hb5).then' hsz5 hb6)
      have hsz6 := (unhide Hb6).size
      clear hb6 HL5 HR5 HD5 HO5
      go_wp2_with fail
      refine (crash_any _ _ pd _ aw cw tt.ws tt.ws.length (-1) w6 (unhide HD6) (by rw [List.length_replicate]) (unhide HO6) (unhide Hpr) hw100 (Nat.le_refl _)).mono ?_
      rintro e w7 ⟨rfl, ⟨ch, hch, k1⟩, k2⟩
      have HD7 : Hid (DskAt w7 wr.heap.size pd (dskS rs)) := by
        have hc := crF_all (ws := tt.ws) (n := 0) (all := rs) (by rw [List.drop_zero]; exact unhide HW) (Nat.zero_le _) (by omega) ch (hch rfl) (flF tt.ws tt.ws.length)
        have e : dskS (rs.take 0) = List.replicate 128 zB := rfl
        rw [e] at hc
        rw [hc] at k1
        exact k1
      have HL7 := hide ((unhide HL6).frS k2)
      have HR7 := hide ((unhide HR6).frS k2)
      have Hb7 : Hid (Below w.heap.size w w7) := (unhide Hb6).trans ((k2.base (B' := w.heap.size) hsz).below hsz6)
      have hsz7 := (unhide Hb7).size
      clear k1 k2 hch HD6 HL6 HR6 HO6
      go_wp2_with fail
      refine (dimage_any wr.heap.size pd (dskS rs) w7 (unhide HD7) (fun s hs => by rw [dsk_pos (unhide Hrs).oks s hs]; omega) (by rw [dskS_len (by omega)]; omega) (by rw [dskS_flat (by omega)]; unfold dskL; rw [List.length_append, List.length_replicate]; omega)).mono ?_
      rintro e w8 ⟨u8, rfl, hu8, hb8⟩
      rw [dskS_flat (by omega)] at hu8
      have hmt := (unhide Hrs).mnt hu8
      have HL8 := hide ((unhide HL7).kept hb8)
      have HR8 := hide ((unhide HR7).kept hb8)
      have Hb8 := hide ((unhide Hb7).then' hsz7 hb8)
      have hsz8 := (unhide Hb8).size
      have Hmt := hide hmt
      clear hu8 hb8 HD7 HL7 HR7 hmt
      go_wp2_with fail
      refine (mount_any u8 w8).mono ?_
      rintro e w9 ⟨k1, k2⟩
      have k1' := k1.resolve_left (fun k => k.1 (unhide Hmt).1)
      obtain ⟨_, pm, rfl, k3⟩ := k1'
      rw [(unhide Hmt).2.1, (unhide Hmt).2.2] at k3
      have HT9 : Hid (Two w9 w.heap.size p pm tt.s tt.s) := Two.new (unhide HL8) hsz8 k2 k3.led
      have HR9 := hide ((unhide HR8).kept k2)
      have Hb9 := hide ((unhide Hb8).then' hsz8 k2)
      have hsz9 := (unhide Hb9).size
      clear k1 k2 k3 HL8 HR8 Hmt
      go_wp2_with fail
      refine (tells_any w.heap.size w.heap.size q pm tt.s w9 (unhide HR9) (unhide HT9).right (unhide HT _ (unhide Hb9))).mono ?_
      rintro e w10 ⟨rfl, hb10⟩
      have HT10 := hide ((unhide HT9).kept hb10)
      have Hb10 := hide ((unhide Hb9).then' hsz9 hb10)
      clear hb10 HR9 HT9 HW Hpr Hrs Hb
      go_wp2_with fail
      go_loopg [9, 17] ys.length (fun m vo i wr => ∃ j : Nat, j ≤ ys.length ∧ m = ys.length - j ∧ i = .int .i64 j ∧ vo = .bool true ∧ Hid (∃ s, Two wr w.heap.size p pm s s) ∧ Hid (Below w.heap.size w wr))
      case atStart => exact ⟨0, by omega, rfl, rfl, rfl, ⟨_, unhide HT10⟩, unhide Hb10⟩
      case round =>
        obtain ⟨j, hj, rfl, rfl, rfl, HTW, Hb⟩ := hrel
        have hsz := (unhide Hb).size
        by_cases hlt : j < ys.length
        · obtain ⟨x, hx⟩ : ∃ x, ys[j]? = some x := ⟨ys[j], List.getElem?_eq_getElem hlt⟩
          have hat := (unhide H').below (unhide Hb)
          have hok := hat.oks x (List.mem_of_getElem? hx)
          obtain ⟨⟨ao'', cap'', e1, hr⟩, _⟩ := hat
          simp only [Value.slice.injEq, true_and] at e1
          obtain ⟨rfl, rfl⟩ := e1
          have hr2 := hr.resolve_left (by rintro rfl; simp at hx)
          obtain ⟨b, off, rfl, hbl, hc⟩ := hr2
          obtain ⟨d0, d1, d2, d3⟩ := hc j x hx
          have hjj : (j : Int) < (ys.length : Int) := by omega
          obtain ⟨s, htw⟩ := unhide HTW
          obtain ⟨kd, xa, xb, xao, xcap, ls⟩ := x
          simp only at d0 d1 d2 d3 hok
          have hgd : BkGood s := by obtain ⟨_, _, _, _, k⟩ := htw.left; exact k.good
          have Hgd := hide (clE_good hgd kd xa xb ls)
          have Hc := hide (calledTwo_any w.heap.size p pm s s kd xa xb xao xcap ls wr htw hok.at' hok.few)
          have Hc2 : Hid (∀ (w' : World) (s' : Bk), FrT w.heap.size tP wr w' → Two w' w.heap.size p pm s' s → Calls Tryz.prog 29 #[.pointer (some ⟨pm, 0, none⟩), .agg #[.int .i64 kd, .int .i64 xa, .int .i64 xb, .slice xao ls.length xcap]] w' fun e w'' => e = .returned (.tuple #[.int .i64 (clE s kd xa xb ls).1, .int .i64 (clE s kd xa xb ls).2.1]) ∧ Two w'' w.heap.size p pm s' (clE s kd xa xb ls).2.2 ∧ FrT w.heap.size tP w' w'') := fun w' s' hf h2 => (calledTwo_any w.heap.size pm p s s' kd xa xb xao xcap ls w' h2.symm (hok.at'.belowK (hf.below hsz) hok.lo) hok.few).mono (fun e w'' ⟨a, b, c⟩ => ⟨a, b.symm, c⟩)
          obtain ⟨⟨n, er, s1⟩, hcl⟩ : ∃ r, clE s kd xa xb ls = r := ⟨_, rfl⟩
          rw [hcl] at Hc Hc2 Hgd
          simp only at Hc Hc2 Hgd
          clear hr hc hx hok hcl hgd htw HTW
          go_wp2_with fail
          refine (unhide Hc).mono ?_
          rintro e w11 ⟨rfl, k1, k2⟩
          have HT11 := hide k1
          have Hf11 := hide k2
          have hb11 := k2.below hsz
          have f0 := (hb11.cell (p := ⟨b, off + j * 4, none⟩) hbl).trans d0
          have f1 := (hb11.cell (p := ⟨b, off + j * 4 + 1, none⟩) hbl).trans d1
          have f2 := (hb11.cell (p := ⟨b, off + j * 4 + 2, none⟩) hbl).trans d2
          have f3 := (hb11.cell (p := ⟨b, off + j * 4 + 3, none⟩) hbl).trans d3
          have Hb11 := hide ((unhide Hb).trans hb11)
          have hsz11 := (unhide Hb11).size
          clear k1 k2 hb11 d0 d1 d2 d3 Hc
          go_wp2_with fail
          refine (unhide Hc2 w11 s1 (unhide Hf11) (unhide HT11)).mono ?_
          rintro e w12 ⟨rfl, k1, k2⟩
          have HT12 := hide k1
          have Hb12 : Hid (Below w.heap.size w w12) := (unhide Hb11).trans (k2.below hsz11)
          have hsz12 := (unhide Hb12).size
          clear k1 k2 f0 f1 f2 f3 Hc2 HT11 Hf11
          go_wp2_with fail
          refine (dayReport_any w.heap.size p s1 t w12 (unhide HT12).left (unhide Hm) (unhide HT _ (unhide Hb12))).mono ?_
          rintro e w13 ⟨x, g, rfl, hrp, hb13⟩
          have Hrp := hide hrp
          have HT13 := hide ((unhide HT12).kept hb13)
          have Hb13 := hide ((unhide Hb12).then' hsz12 hb13)
          have hsz13 := (unhide Hb13).size
          clear hrp hb13 HT12
          go_wp2_with fail
          refine (dayReport_any w.heap.size pm s1 t w13 (unhide HT13).right (unhide Hm) (unhide HT _ (unhide Hb13))).mono ?_
          rintro e w14 ⟨x', g', rfl, hrp, hb14⟩
          obtain ⟨rfl, rfl⟩ := rep_uniq (unhide Hrp) hrp
          have HT14 := hide ((unhide HT13).kept hb14)
          have Hb14 := hide ((unhide Hb13).then' hsz13 hb14)
          have hsz14 := (unhide Hb14).size
          clear hrp hb14 HT13 Hrp
          go_wp2_with fail
          refine (dayAccounts_any w.heap.size p s1 w14 (unhide HT14).left (unhide HT _ (unhide Hb14))).mono ?_
          rintro e w15 ⟨ua, rfl, hua, hb15⟩
          have hza : ua.size ≤ 500 := by rw [← L_length, hua]; exact accT_sz (unhide Hgd)
          have Hua := hide hua
          have HT15 := hide ((unhide HT14).kept hb15)
          have Hb15 := hide ((unhide Hb14).then' hsz14 hb15)
          have hsz15 := (unhide Hb15).size
          have zA : (ua ++ (⟨#[124]⟩ : ByteArray)).size ≤ 501 := by rw [ByteArray.size_append]; show ua.size + 1 ≤ 501; omega
          clear hua hb15 HT14
          go_wp2_with fail
          refine (dayJournal_any w.heap.size p s1 w15 (unhide HT15).left (unhide HT _ (unhide Hb15))).mono ?_
          rintro e w16 ⟨uj, rfl, huj, hb16⟩
          have hzj : uj.size ≤ 30000 := by rw [← L_length, huj]; exact jrT_sz (unhide Hgd)
          have Huj := hide huj
          have HT16 := hide ((unhide HT15).kept hb16)
          have Hb16 := hide ((unhide Hb15).then' hsz15 hb16)
          have hsz16 := (unhide Hb16).size
          clear huj hb16 HT15
          go_wp2_with fail
          refine (dayAccounts_any w.heap.size pm s1 w16 (unhide HT16).right (unhide HT _ (unhide Hb16))).mono ?_
          rintro e w17 ⟨ub, rfl, hub, hb17⟩
          obtain rfl : ub = ua := L_inj (hub.trans (unhide Hua).symm)
          have HT17 := hide ((unhide HT16).kept hb17)
          have Hb17 := hide ((unhide Hb16).then' hsz16 hb17)
          have hsz17 := (unhide Hb17).size
          clear hub hb17 HT16
          go_wp2_with fail
          refine (dayJournal_any w.heap.size pm s1 w17 (unhide HT17).right (unhide HT _ (unhide Hb17))).mono ?_
          rintro e w18 ⟨uk, rfl, huk, hb18⟩
          obtain rfl : uk = uj := L_inj (huk.trans (unhide Huj).symm)
          have HT18 := hide ((unhide HT17).kept hb18)
          have Hb18 := hide ((unhide Hb17).then' hsz17 hb18)
          clear huk hb18 HT17
          go_wp2_with fail
          go_roundg (ys.length - (j + 1))
          case measure => omega
          case rel => exact ⟨j + 1, by omega, rfl, by go_num, rfl, ⟨_, unhide HT18⟩, unhide Hb18⟩
        · obtain rfl : j = ys.length := by omega
          go_wp2_with fail
          go_ret
          exact ⟨rfl, unhide Hb⟩
end Go.Proofs.YtdchbenfccofpabGreatDoor
namespace Go.Proofs.YtdchbenfccofpabGreatDoor
open Go.RowKit Db

/-- How many writes stand ahead of the end of so many acts. -/
def endN (t : KS) (xs : List KAct) (j : Nat) : Nat := 2 * (logR t (xs.take j)).length
theorem endN_step (t : KS) (xs : List KAct) {j : Nat} (h : j < xs.length) : endN t xs (j + 1) = endN t xs j ∨ (endN t xs (j + 1) = endN t xs j + 2 ∧ ∃ x, xs[j]? = some x ∧ clY (krun t (xs.take j)).s x.kd x.a x.b x.ls = true) := by
  obtain ⟨x, hx⟩ : ∃ x, xs[j]? = some x := ⟨xs[j], List.getElem?_eq_getElem h⟩
  unfold endN
  rw [logR_step hx]
  split
  · rename_i hy
    right
    exact ⟨by simp; omega, x, hx, hy⟩
  · left; simp
theorem endN_mono (t : KS) (xs : List KAct) {i : Nat} : ∀ {j : Nat}, i ≤ j → j ≤ xs.length → endN t xs i ≤ endN t xs j := by
  intro j
  induction j with
  | zero => intro h _; obtain rfl : i = 0 := by omega
            exact Nat.le_refl _
  | succ j ih =>
    intro h hj
    by_cases e : i = j + 1
    · subst e; exact Nat.le_refl _
    · have := ih (by omega) (by omega)
      rcases endN_step t xs (j := j) (by omega) with h1 | ⟨h1, _⟩ <;> omega
/-- The last act whose end stands ahead of the crash. -/
theorem cutJ (t : KS) (xs : List KAct) (c : Nat) : ∃ j, j ≤ xs.length ∧ endN t xs j ≤ c ∧ (j = xs.length ∨ c < endN t xs (j + 1)) := by
  have key : ∀ m, m ≤ xs.length → (∃ j, j ≤ xs.length ∧ endN t xs j ≤ c ∧ (j = xs.length ∨ c < endN t xs (j + 1))) ∨ endN t xs m ≤ c := by
    intro m
    induction m with
    | zero => intro _; right; unfold endN; simp [logR]
    | succ m ih =>
      intro hm
      rcases ih (by omega) with h | h
      · exact .inl h
      · by_cases h2 : endN t xs (m + 1) ≤ c
        · exact .inr h2
        · exact .inl ⟨m, by omega, h, .inr (by omega)⟩
  rcases key xs.length (Nat.le_refl _) with h | h
  · exact h
  · exact ⟨xs.length, Nat.le_refl _, h, .inl rfl⟩
/-- What a crash leaves on the disk: the acts up to the last whose end stands ahead of it, or one more, which is written. -/
theorem cut_disk {rs : List Rc} {t : KS} (h : LogW rs rs.length t) (xs : List KAct) {c j : Nat} (ch : Nat → Bool) (hc : c ≤ (krun t xs).ws.length) (hj : j ≤ xs.length) (h1 : endN t xs j ≤ c) (h2 : j = xs.length ∨ c < endN t xs (j + 1)) :
    crF (krun t xs).ws (flF (krun t xs).ws c) ch (dskS rs) c = dskS (rs ++ logR t (xs.take j)) ∨
    (j < xs.length ∧ endN t xs j < c ∧ (∃ x, xs[j]? = some x ∧ clY (krun t (xs.take j)).s x.kd x.a x.b x.ls = true) ∧ crF (krun t xs).ws (flF (krun t xs).ws c) ch (dskS rs) c = dskS (rs ++ logR t (xs.take (j + 1)))) := by
  have hr := h.runR xs
  have hlen := ends_len h xs xs.length
  rw [List.take_length] at hlen
  have hsm := hr.small
  have e0 : (rs ++ logR t xs).take rs.length = rs := by rw [List.take_append_of_le_length (Nat.le_refl _), List.take_length]
  have hcr := crF_crash hr.ws hr.le (by omega) ch c hc
  rw [e0] at hcr
  have ej : endN t xs j = 2 * (logR t (xs.take j)).length := rfl
  have e1 : c = endN t xs j ∨ (c = endN t xs j + 1 ∧ j < xs.length ∧ endN t xs (j + 1) = endN t xs j + 2 ∧ ∃ x, xs[j]? = some x ∧ clY (krun t (xs.take j)).s x.kd x.a x.b x.ls = true) := by
    rcases h2 with rfl | h2
    · left
      have : endN t xs xs.length = (krun t xs).ws.length := by rw [hlen]; unfold endN; rw [List.take_length]
      omega
    · by_cases hjl : j = xs.length
      · left
        subst hjl
        have : endN t xs xs.length = (krun t xs).ws.length := by rw [hlen]; unfold endN; rw [List.take_length]
        omega
      · rcases endN_step t xs (j := j) (by omega) with h3 | ⟨h3, h4⟩
        · omega
        · by_cases hce : c = endN t xs j
          · exact .inl hce
          · exact .inr ⟨by omega, by omega, h3, h4⟩
  rcases e1 with e1 | ⟨e1, e2, e3, e4⟩
  · left
    rcases hcr with hcr | ⟨hodd, _⟩
    · rw [hcr, logR_take (j := j) (m := c / 2) rs (by omega)]
    · omega
  · rcases hcr with hcr | ⟨_, hcr⟩
    · left
      rw [hcr, logR_take (j := j) (m := c / 2) rs (by omega)]
    · right
      refine ⟨e2, by omega, e4, ?_⟩
      have ej' : endN t xs (j + 1) = 2 * (logR t (xs.take (j + 1))).length := rfl
      rw [hcr, Nat.add_assoc, logR_take (j := j + 1) (m := c / 2 + 1) rs (by omega)]
/-- The state behind some acts. -/
theorem cut_state {rs : List Rc} {t : KS} (h : LogW rs rs.length t) (xs : List KAct) (j : Nat) : LogW (rs ++ logR t (xs.take j)) (rs ++ logR t (xs.take j)).length ⟨(krun t (xs.take j)).s, (krun t (xs.take j)).u, []⟩ ∧ LogW (rs ++ logR t (xs.take j)) rs.length (krun t (xs.take j)) := by
  have hr := h.runR (xs.take j)
  exact ⟨⟨hr.log, Nat.le_refl _, by rw [List.drop_length]; exact WsAt.nil _⟩, hr⟩
/-- A round begins. -/
theorem Aft.start {w w1 w2 : World} {B p q pd bo u : Nat} {cs : Array Value} {s : Bk} {ss : List ByteArray} {ao : Option Addr} {cap : Nat} {c : Nat} {vp vc vt : Value} {tv : List (Tn × Value)} (hB : B ≤ w.heap.size) (hl : LedNx (fun _ => False) w1 B p u s) (hlog : w1.ownsRow w.heap.size 96 2 (.slice ao 0 cap) 0 []) (hr : Rec w1 B q s) (hd : DskAt w1 B pd ss) (hbx : Blk w1 bo cs 62) (_hs : w.heap.size ≤ w1.heap.size)
    (hb : Below (w1.heap.size + 1) (w1.alloc (.cells #[.int .i64 0] 3)) w2) (hc : RecAt w2 B c vp vc vt tv s) (hn : NewB (w1.heap.size + 1) c vp vc vt) :
    Aft (w2.alloc (.cells #[.pointer (some ⟨c, 0, none⟩)] 24)) B p q pd bo cs u s ss [] [0] [(c, s)] (.slice ao 0 cap) (.slice (some ⟨w1.heap.size, 0, none⟩) 1 1) (.slice (some ⟨w2.heap.size, 0, none⟩) 1 1) (fun k => k = c ∨ vp.ownBlock = some k ∨ vc.ownBlock = some k ∨ vt.ownBlock = some k) := by
  have hb0 : Below w1.heap.size w1 (w1.alloc (.cells #[.int .i64 0] 3)) := (Below.refl _ _).alloc (Nat.le_refl _) _
  have hb2 : Below w1.heap.size w1 w2 := hb0.then' (by simp) (by simpa using hb)
  have hb3 : Below w2.heap.size w2 (w2.alloc (.cells #[.pointer (some ⟨c, 0, none⟩)] 24)) := (Below.refl _ _).alloc (Nat.le_refl _) _
  obtain ⟨W, hW⟩ : ∃ W, w2.alloc (.cells #[.pointer (some ⟨c, 0, none⟩)] 24) = W := ⟨_, rfl⟩
  have hw2 := hb2.size
  have hrow : W.ownsRow B 24 1 (.slice (some ⟨w2.heap.size, 0, none⟩) 1 1) 1 [.pointer (some ⟨c, 0, none⟩)] := owns_new (cs := #[.pointer (some ⟨c, 0, none⟩)]) (by rw [← hW]; exact Blk.new _ _ _) (by omega) (by unfold maxLen; omega) rfl
  rw [hW] at hb3 ⊢
  have hbW : Below w1.heap.size w1 W := hb2.then' hw2 hb3
  have hends : W.ownsRow B 3 1 (.slice (some ⟨w1.heap.size, 0, none⟩) 1 1) 1 [.int .i64 0] := by
    have h1 : (w1.alloc (.cells #[.int .i64 0] 3)).ownsRow B 3 1 (.slice (some ⟨w1.heap.size, 0, none⟩) 1 1) 1 [.int .i64 0] := owns_new (cs := #[.int .i64 0]) (Blk.new _ _ _) (by omega) (by unfold maxLen; omega) rfl
    have h2 : w2.ownsRow B 3 1 (.slice (some ⟨w1.heap.size, 0, none⟩) 1 1) 1 [.int .i64 0] := ownsRow_below h1 (by simpa using hb)
    exact ownsRow_below h2 hb3
  have hcW := hc.kept hb3
  have own : ∀ k, (k = c ∨ vp.ownBlock = some k ∨ vc.ownBlock = some k ∨ vt.ownBlock = some k) → w1.heap.size + 1 ≤ k ∧ k < W.heap.size := by
    rintro k (rfl | hk | hk | hk)
    · exact ⟨hn.1, hcW.blk.lt⟩
    · exact ⟨hn.2.1 k hk, (own_lt hcW.par k hk).2⟩
    · exact ⟨hn.2.2.1 k hk, (own_lt hcW.clo k hk).2⟩
    · exact ⟨hn.2.2.2 k hk, (own_lt hcW.txs.own k hk).2⟩
  have hlogW : W.ownsRow B 96 2 (.slice ao 0 cap) 0 [] := ownsRow_base (ownsRow_below hlog hbW) (fun k hk => by have := (own_lt hlog k hk).1; omega)
  have hlg : ∀ k, (Value.slice ao 0 cap).ownBlock = some k → k < w1.heap.size := fun k hk => (own_lt hlog k hk).2
  have htop : ∀ k, Keep (fun k => k = c ∨ vp.ownBlock = some k ∨ vc.ownBlock = some k ∨ vt.ownBlock = some k) (.slice ao 0 cap) (.slice (some ⟨w1.heap.size, 0, none⟩) 1 1) k → k < W.heap.size := by
    rintro k (hk | hk | hk)
    · exact (own k hk).2
    · have := hlg k hk; have := hbW.size; omega
    · exact (own_lt hends k hk).2
  obtain ⟨va, vt0, tv0, hl⟩ := hl
  have hlW := hl.toLedAt.kept hbW
  have hne : ∀ {T : TypeId}, T ≠ 96 → ∀ k, Tg w1 k T → (Value.slice ao 0 cap).ownBlock ≠ some k := fun hT k hk e => hT (tg_ne hk (ownsRow_tg hlog k e).2)
  have hno : ∀ {T : TypeId}, T ≠ 96 → ∀ k, Tg w1 k T → k < w1.heap.size → ¬ Keep (fun k => k = c ∨ vp.ownBlock = some k ∨ vc.ownBlock = some k ∨ vt.ownBlock = some k) (.slice ao 0 cap) (.slice (some ⟨w1.heap.size, 0, none⟩) 1 1) k := by
    intro T hT k hk hlt
    rintro (h | h | h)
    · have := (own k h).1; omega
    · exact hne hT k hk h
    · simp only [Value.ownBlock, Option.some.injEq] at h; omega
  obtain ⟨vp2, vc2, vt2, tv2, hr⟩ := hr
  refine ⟨⟨va, vt0, tv0, hlW, hno (by decide) p hl.blk.tg hl.blk.lt, fun k hk => hno (by decide) k (ownsRow_tg hl.acs k hk).2 (own_lt hl.acs k hk).2, fun k hk => hno (by decide) k (ownsRow_tg hl.txs.own k hk).2 (own_lt hl.txs.own k hk).2, fun k hk => by simp [Value.ownBlock] at hk, htop⟩,
    ⟨vp2, vc2, vt2, tv2, hr.kept hbW, hno (by decide) q hr.blk.tg hr.blk.lt, fun k hk => hno (by decide) k (ownsRow_tg hr.par k hk).2 (own_lt hr.par k hk).2, fun k hk => hno (by decide) k (ownsRow_tg hr.clo k hk).2 (own_lt hr.clo k hk).2, fun k hk => hno (by decide) k (ownsRow_tg hr.txs.own k hk).2 (own_lt hr.txs.own k hk).2, htop⟩,
    hlogW, hends, hrow, ?_, ?_, fun k hk => (own k hk).2, hd.kept hbW, hbx.kept hbW⟩
  · intro x hx
    rw [List.mem_singleton] at hx
    subst hx
    exact ⟨vp, vc, vt, tv, hcW, .inl rfl, fun k hk => .inr (.inl hk), fun k hk => .inr (.inr (.inl hk)), fun k hk => .inr (.inr (.inr hk))⟩
  · intro k hk hK
    simp only [Value.ownBlock, Option.some.injEq] at hk
    have := (own k hK).1
    omega
end Go.Proofs.YtdchbenfccofpabGreatDoor
namespace Go.Proofs.YtdchbenfccofpabGreatDoor
open Go.RowKit Db

theorem info_prec : (Tryz.prog.info? 24).map (fun i => (i.zero, i.size, i.bytes)) = some (some (.pointer none), 1, 8) := by kernel_rfl
/-- Ends and copies behind so many acts. -/
def endsL (t : KS) (xs : List KAct) (j : Nat) : List Nat := (List.range (j + 1)).map (endN t xs)
theorem endsL_more (t : KS) (xs : List KAct) (j : Nat) : endsL t xs (j + 1) = endsL t xs j ++ [endN t xs (j + 1)] := by unfold endsL; rw [List.range_succ]; simp
def CpsOk (t : KS) (xs : List KAct) (j : Nat) (qs : List (Nat × Bk)) : Prop := qs.length = j + 1 ∧ ∀ i, i ≤ j → ∃ c, qs[i]? = some (c, (krun t (xs.take i)).s)
theorem CpsOk.more {t : KS} {xs : List KAct} {j : Nat} {qs : List (Nat × Bk)} (h : CpsOk t xs j qs) (c : Nat) : CpsOk t xs (j + 1) (qs ++ [(c, (krun t (xs.take (j + 1))).s)]) := by
  refine ⟨by simp [h.1], fun i hi => ?_⟩
  by_cases e : i = j + 1
  · subst e
    exact ⟨c, by rw [List.getElem?_append_right (by rw [h.1]; omega), h.1]; simp⟩
  · obtain ⟨d, hd⟩ := h.2 i (by omega)
    exact ⟨d, by rw [List.getElem?_append_left (by rw [h.1]; omega)]; exact hd⟩
theorem LedNx.led {X : Nat → Prop} {w : World} {B p u : Nat} {s : Bk} (h : LedNx X w B p u s) : Led w B p s := by obtain ⟨va, vt, tv, h⟩ := h; exact ⟨va, vt, tv, _, h.toLedAt⟩
theorem LedWx.any {X : Nat → Prop} {w : World} {B p u : Nat} {ws : List Wr} {s : Bk} (h : LedW w B p u ws s) (hx : ∀ k, ¬ X k) : LedWx X w B p u ws s := by
  obtain ⟨va, vt, tv, vw, h⟩ := h
  exact ⟨va, vt, tv, vw, h, hx _, fun k _ => hx k, fun k _ => hx k, fun k _ => hx k, fun k hk => absurd hk (hx k)⟩
/-- The state of the loop over a round's acts. -/
def AftJ (w : World) (B p q pd bo : Nat) (cs : Array Value) (t : KS) (xs : List KAct) (ss : List ByteArray) (j : Nat) (vl ve vr : Value) : Prop :=
  ∃ qs Kc, Aft w B p q pd bo cs (krun t (xs.take j)).u (krun t (xs.take j)).s ss (krun t (xs.take j)).ws (endsL t xs j) qs vl ve vr Kc ∧ CpsOk t xs j qs

/-- What is left of a round's lists: ends, copies. -/
structure Rst (w : World) (B : Nat) (es : List Nat) (qs : List (Nat × Bk)) (ve vr : Value) : Prop where
  ends : w.ownsRow B 3 1 ve es.length (es.map fun (e : Nat) => Value.int .i64 (e : Int))
  recs : w.ownsRow B 24 1 vr qs.length (qs.map fun x => .pointer (some ⟨x.1, 0, none⟩))
  cps : ∀ x ∈ qs, Rec w B x.1 x.2
theorem Aft.rst {w : World} {B p q pd bo u : Nat} {cs : Array Value} {s : Bk} {ss : List ByteArray} {lg : List Wr} {es : List Nat} {qs : List (Nat × Bk)} {vl ve vr : Value} {Kc : Nat → Prop} (h : Aft w B p q pd bo cs u s ss lg es qs vl ve vr Kc) : Rst w B es qs ve vr := ⟨h.ends, h.recs, fun x hx => (h.cps x hx).rec'⟩
theorem Rst.frT {w w' : World} {B B' : Nat} {es : List Nat} {qs : List (Nat × Bk)} {ve vr : Value} {Ts : List TypeId} (h : Rst w B es qs ve vr) (hf : FrT B' Ts w w') (h1 : 3 ∉ Ts) (h2 : 24 ∉ Ts) (h3 : ∀ T ∈ tK, T ∉ Ts) (h4 : 84 ∉ Ts) : Rst w' B es qs ve vr :=
  ⟨ownsRow_frT h.ends hf h1, ownsRow_frT h.recs hf h2, fun x hx => by obtain ⟨a, b, c, d, e⟩ := h.cps x hx; exact ⟨a, b, c, d, e.frT hf h3 h4⟩⟩
theorem Rst.kept {w w' : World} {B : Nat} {es : List Nat} {qs : List (Nat × Bk)} {ve vr : Value} (h : Rst w B es qs ve vr) (hb : Below w.heap.size w w') : Rst w' B es qs ve vr := h.frT (FrT.of_below (B := 0) (Ts := []) hb) (by simp) (by simp) (by simp) (by simp)
theorem endsL_len (t : KS) (xs : List KAct) (j : Nat) : (endsL t xs j).length = j + 1 := by unfold endsL; simp
theorem endsL_at (t : KS) (xs : List KAct) {j k : Nat} (h : k ≤ j) : (endsL t xs j)[k]? = some (endN t xs k) := by unfold endsL; rw [List.getElem?_map, List.getElem?_range (by omega)]; rfl
theorem Rst.ends' {w : World} {B : Nat} {t : KS} {xs : List KAct} {j : Nat} {qs : List (Nat × Bk)} {ve vr : Value} (h : Rst w B (endsL t xs j) qs ve vr) : w.ownsRow B 3 1 ve (j + 1) ((endsL t xs j).map fun (e : Nat) => Value.int .i64 (e : Int)) := by have := h.ends; rw [endsL_len] at this; exact this
def StopHere (p : Prop) : Prop := p
theorem stopHere {p : Prop} (h : StopHere p) : p := h
set_option maxRecDepth 100000 in
set_option maxHeartbeats 16000000 in
theorem after_any (B p q pd : Nat) (rs : List Rc) (s0 : Bk) (u0 : Nat) (ao : Option Addr) (cap : Nat) (xs : List KAct) (tx : ByteArray) (cut keep : Int) (w : World) (hB : B ≤ w.heap.size) (hr : Rec w B q s0) (hl : LedW w B p u0 [] s0) (hd : DskAt w B pd (dskS rs)) (hg : LogW rs rs.length ⟨s0, u0, []⟩)
    (hx : KActsAt w B (.slice ao xs.length cap) xs) (hlen : xs.length ≤ 2940000000000) (hm : tx.size ≤ maxLen) (hc0 : -9223372036854775808 ≤ cut) (hc1 : cut ≤ 9223372036854775807) (hT : ∀ w', Below B w w' → Tab w') :
    Calls Tryz.prog 32 #[.pointer (some ⟨pd, 0, none⟩), .pointer (some ⟨p, 0, none⟩), .pointer (some ⟨q, 0, none⟩), .agg #[.slice ao xs.length cap, .string tx, .int .i64 cut, .int .i64 keep]] w fun e w' => ∃ p' q' rs' s' u', e = .returned (.tuple #[.pointer (some ⟨p', 0, none⟩), .pointer (some ⟨q', 0, none⟩)]) ∧ Rec w' B q' s' ∧ LedW w' B p' u' [] s' ∧ DskAt w' B pd (dskS rs') ∧ LogW rs' rs'.length ⟨s', u', []⟩ ∧ Below B w w' := by
  obtain ⟨ip, hip, hip0, hip1, hip2⟩ := info_parts info_prec
  obtain ⟨ii, hi, hz0, hz1, hz2⟩ := info_parts info_kint
  obtain ⟨iw, hiw, hw0, hw1, hw2⟩ := info_parts info_write
  obtain ⟨t0, ht0⟩ : ∃ t0 : KS, (⟨s0, u0, []⟩ : KS) = t0 := ⟨_, rfl⟩
  have hts : t0.s = s0 := by rw [← ht0]
  have htu : t0.u = u0 := by rw [← ht0]
  have htw : t0.ws = [] := by rw [← ht0]
  rw [ht0] at hg
  have HT := hide hT
  have HG := hide hg
  have Hm := hide hm
  obtain ⟨bo, hbo⟩ : ∃ bo, w.heap.size = bo := ⟨_, rfl⟩
  obtain ⟨W, hW⟩ : ∃ W, w.alloc (.cells #[.slice ao xs.length cap, .string tx, .int .i64 cut, .int .i64 keep] 62) = W := ⟨_, rfl⟩
  have HX : Hid (Blk W bo #[.slice ao xs.length cap, .string tx, .int .i64 cut, .int .i64 keep] 62) := by rw [← hW, ← hbo]; exact Blk.new _ _ _
  have Hb0 : Hid (Below w.heap.size w W) := by rw [← hW]; exact (Below.refl _ _).alloc (Nat.le_refl _) _
  have hWs : B ≤ W.heap.size := Nat.le_trans hB (unhide Hb0).size
  have HL := hide (LedWx.any (X := fun _ => False) (hl.kept (unhide Hb0)) (fun _ h => h))
  have HR := hide (hr.kept (unhide Hb0))
  have HD := hide (hd.kept (unhide Hb0))
  have HA := hide hx
  have HbW : Hid (Below B w W) := by have h := unhide Hb0; exact ⟨h.os, h.tape, h.output, h.size, fun k hk => h.block k (by omega)⟩
  clear hr hl hd hg hx hT hm ht0
  go_enter Tryz.func32, Tryz.ntmps32
  go_wp2_with fail
  try rw [hW]
  try rw [hbo]
  clear hW hbo Hb0
  refine (dayWritesX_any (fun _ => False) B p u0 [] s0 W (unhide HL)).mono ?_
  rintro e w1 ⟨⟨aw, cw, rfl, k1, k4⟩, k2, k3⟩
  obtain ⟨rfl, rfl⟩ := k4 rfl
  have HO1 := hide k1
  have HL1 := hide k2
  have HR1 := hide ((unhide HR).frB k3.fr)
  have HD1 := hide ((unhide HD).frT k3.fr (by decide) (by decide))
  have HX1 := hide ((unhide HX).frT k3.fr (by decide))
  have Hb1 : Hid (Below B w w1) := (unhide HbW).trans (k3.fr.below hWs)
  have hs1 : W.heap.size ≤ w1.heap.size := k3.fr.size
  clear k1 k2 k3 k4 HL HR HD HX
  go_wp2_with fail
  refine (clone_any B q s0 _ ((unhide HR1).kept ((Below.refl _ _).alloc (Nat.le_refl _) _))).mono ?_
  rintro e w2 ⟨c0, vp, vc, vt, tv, rfl, hcr, hnw, hb2⟩
  have hsa : (w1.alloc (.cells #[.int .i64 0] 3)).heap.size = w1.heap.size + 1 := by simp
  rw [hsa] at hnw hb2
  have hst := Aft.start (bo := bo) hWs (unhide HL1) (unhide HO1) (unhide HR1) (unhide HD1) (unhide HX1) hs1 hb2 hcr hnw
  obtain ⟨e1, he1⟩ : ∃ e1, w1.heap.size = e1 := ⟨_, rfl⟩
  obtain ⟨e2, he2⟩ : ∃ e2, w2.heap.size = e2 := ⟨_, rfl⟩
  obtain ⟨W3, hW3⟩ : ∃ W3, w2.alloc (.cells #[.pointer (some ⟨c0, 0, none⟩)] 24) = W3 := ⟨_, rfl⟩
  have Hb3 : Hid (Below B w W3) := by
    have a1 : Below B w (w1.alloc (.cells #[.int .i64 0] 3)) := (unhide Hb1).alloc (by omega) _
    have a2 : Below B w w2 := a1.then' (by simp; omega) (by rw [hsa]; exact hb2)
    rw [← hW3]
    exact a2.alloc (by have := a2.size; omega) _
  rw [hW3, he1, he2] at hst
  have HJ3 : Hid (AftJ W3 B p q pd bo #[.slice ao xs.length cap, .string tx, .int .i64 cut, .int .i64 keep] t0 xs (dskS rs) 0 (.slice none 0 0) (.slice (some ⟨e1, 0, none⟩) 1 1) (.slice (some ⟨e2, 0, none⟩) 1 1)) := by
    refine ⟨[(c0, s0)], (fun k => k = c0 ∨ vp.ownBlock = some k ∨ vc.ownBlock = some k ∨ vt.ownBlock = some k), ?_, rfl, ?_⟩
    rotate_left
    · intro i hi
      obtain rfl : i = 0 := by omega
      refine ⟨c0, ?_⟩
      show some (c0, s0) = some (c0, t0.s)
      rw [hts]
    show Aft W3 B p q pd bo _ t0.u t0.s (dskS rs) t0.ws [0] _ _ _ _ _
    rw [hts, htu, htw]
    exact hst
  clear hst hcr hnw hb2 hsa HL1 HO1 HR1 HD1 HX1 Hb1 HbW
  go_wp2_with fail
  try rw [hW3]
  try rw [he1]
  try rw [he2]
  clear hW3 he1 he2
  go_loopg [10, 11, 12, 13] xs.length (fun m vl ve vr vi wr => ∃ j : Nat, j ≤ xs.length ∧ m = xs.length - j ∧ vi = .int .i64 j ∧ Hid (AftJ wr B p q pd bo #[.slice ao xs.length cap, .string tx, .int .i64 cut, .int .i64 keep] t0 xs (dskS rs) j vl ve vr) ∧ Hid (Below B w wr))
  case atStart => exact ⟨0, by omega, rfl, rfl, unhide HJ3, unhide Hb3⟩
  case round =>
    obtain ⟨j, hj, rfl, rfl, HJ, Hb⟩ := hrel
    have hsz : B ≤ wr.heap.size := Nat.le_trans hB (unhide Hb).size
    obtain ⟨qs, Kc, ha, hqs⟩ := unhide HJ
    obtain ⟨al, cl, rfl⟩ := ownsRow_form ha.log
    obtain ⟨ae, ce, rfl⟩ := ownsRow_form ha.ends
    obtain ⟨ar, cr, rfl⟩ := ownsRow_form ha.recs
    have hql := hqs.1
    have hel : (endsL t0 xs j).length = j + 1 := by unfold endsL; simp
    have hgj := (unhide HG).runR (xs.take j)
    have hlj := ends_len (unhide HG) xs j
    have hsm := hgj.small
    rw [List.length_append] at hsm
    obtain ⟨n, hn⟩ : ∃ n, (krun t0 (xs.take j)).ws.length = n := ⟨_, rfl⟩
    have hn2 : n ≤ 200 := by omega
    rw [hn, hql, hel] at ha ⊢
    have b0 := ha.box.cell 0
    have lb := ha.box.lt
    simp only [List.getElem?_toArray, List.getElem?_cons_zero] at b0
    by_cases hlt : j < xs.length
    · obtain ⟨x, hxj⟩ : ∃ x, xs[j]? = some x := ⟨xs[j], List.getElem?_eq_getElem hlt⟩
      have hstep := krun_step (t := t0) hxj
      have hend := ends_len (unhide HG) xs (j + 1)
      rw [hstep] at hend
      obtain ⟨T, hT⟩ : ∃ T, krun t0 (xs.take j) = T := ⟨_, rfl⟩
      rw [hT] at hstep hend hn ha
      have hkw := kstep_ws T x
      have hat := (unhide HA).below (unhide Hb)
      have hok := hat.oks x (List.mem_of_getElem? hxj)
      obtain ⟨⟨ao'', cap'', e1', hr⟩, _⟩ := hat
      simp only [Value.slice.injEq, true_and] at e1'
      obtain ⟨rfl, rfl⟩ := e1'
      have hr2 := hr.resolve_left (by rintro rfl; simp at hxj)
      obtain ⟨b, off, rfl, hbl, hc⟩ := hr2
      obtain ⟨d0, d1, d2, d3⟩ := hc j x hxj
      have hjj : (j : Int) < (xs.length : Int) := by omega
      have hks : (kstep T x).s = (clE T.s x.kd x.a x.b x.ls).2.2 := rfl
      have hku : (kstep T x).u = dkU (clY T.s x.kd x.a x.b x.ls) T.u := rfl
      obtain ⟨kd, xa, xb, xao, xcap, ls⟩ := x
      simp only at d0 d1 d2 d3 hok hkw hks hku
      have Hsay := hide (saysX_any (Keep Kc (.slice al n cl) (.slice ae (j + 1) ce)) B q p T.u [] T.s kd xa xb xao xcap ls wr ha.rec' ha.led.ledW (fun w' hf => hok.at'.belowK (hf.below hsz) hok.lo) hok.few)
      have hm2 := dkW_len (clY T.s kd xa xb ls) T.u (clX kd xa xb ls)
      rw [← hks, ← hku] at Hsay
      obtain ⟨ws', hws'⟩ : ∃ ws', dkW (clY T.s kd xa xb ls) T.u (clX kd xa xb ls) [] = ws' := ⟨_, rfl⟩
      rw [hws'] at Hsay hkw hm2
      have hm3 : ws'.length ≤ 2 := by rw [hm2]; split <;> omega
      obtain ⟨T', hT'⟩ : ∃ T', kstep T ⟨kd, xa, xb, xao, xcap, ls⟩ = T' := ⟨_, rfl⟩
      rw [hT'] at Hsay hkw hend hstep
      obtain ⟨m, hm⟩ : ∃ m, ws'.length = m := ⟨_, rfl⟩
      rw [hm] at hm3
      have HA0 := hide ha
      have Hqs := hide hqs
      have Hstep := hide hstep
      have Hkw := hide hkw
      have Hend := hide hend
      have Hn := hide hn
      have HM := hide hm
      clear hgj hlj hsm hn hql hel hqs ha hr hc hok hks hku hm2 hws' hT' hT hstep hkw hend hm hxj
      go_wp2_with fail
      refine (unhide Hsay).mono ?_
      rintro e w4 ⟨rfl, k1, k2, k3⟩
      have K1 := hide k1
      have K2 := hide k2
      have K3 := hide k3
      have Hb4 : Hid (Below B w w4) := (unhide Hb).trans (k3.fr.below hsz)
      have hsz4 : B ≤ w4.heap.size := Nat.le_trans hsz k3.fr.size
      clear k1 k2 k3 Hsay d0 d1 d2 d3
      go_wp2_with fail
      refine (dayWritesX_any (Keep Kc (.slice al n cl) (.slice ae (j + 1) ce)) B p T'.u ws' T'.s w4 (unhide K2)).mono ?_
      rw [unhide HM]
      rintro e w5 ⟨⟨al2, cl2, rfl, j1, _⟩, j2, j3⟩
      have ha5 := (unhide HA0).says (unhide K3) (unhide K1) j3 j2
      have hlg5 := ha5.log
      rw [unhide Hn] at hlg5
      have HLg5 := hide hlg5
      have HO5 := hide j1
      have Hb5 : Hid (Below B w w5) := (unhide Hb4).trans (j3.fr.below hsz4)
      have hsz5 : B ≤ w5.heap.size := Nat.le_trans hsz4 j3.fr.size
      have HA5 := hide ha5
      clear ha5 hlg5 j1 j2 j3 K1 K2 K3 HA0
      go_wp2_with (first
        | (at_builtin; refine wpList_append_src rfl (.tmp 50) (.tmp 51) 47 rfl B 96 iw (.agg #[.int .i64 0, .string ⟨#[]⟩]) 2 24 Tryz.underlying47 hiw hw0 hw1 hw2 rfl (by decide) (.slice al n cl) n (cellsW T.ws) rfl (unhide HLg5) w4.heap.size (.slice al2 m cl2) m (cellsW ws') rfl (unhide HO5) (cellsW_one ws') (by unfold maxLen; omega) (by omega) hsz5 ?_; intro v6 w6 hown6 hgr6 hat6; obtain ⟨N, hN⟩ : ∃ N, n + m = N := ⟨_, rfl⟩; rw [hN] at hown6; obtain ⟨al6, cl6, rfl⟩ := ownsRow_form hown6; have ha6 := (unhide HA5).logs (lg' := T.ws ++ ws') hgr6 (by rw [List.length_append, unhide Hn, unhide HM, hN]; unfold cellsW; rw [List.flatMap_append]; exact hown6) hat6; have he6 := ha6.ends; have hel6 : (endsL t0 xs j).length = j + 1 := (by unfold endsL; simp); rw [hel6] at he6; have HE6 := hide he6; have HA6 := hide ha6; have Hb6 : Hid (Below B w w6) := (unhide Hb5).trans ((frx_grown (B := B) (T := 96) hgr6 (fun k hk => ownsRow_tg (unhide HLg5) k hk)).fr.below hsz5); have hsz6 : B ≤ w6.heap.size := Nat.le_trans hsz5 hgr6.size; have hN2 : N ≤ 202 := (by omega); clear hown6 hgr6 hat6 ha6 he6 HA5 HLg5 HO5)
        | (at_builtin; refine wpList_append_own_at _ rfl (.tmp 53) (.tmp 56) 87 rfl B 3 ii (.int .i64 0) 1 8 Tryz.underlying87 hi hz0 hz1 hz2 rfl (by decide) (.slice ae (j + 1) ce) (j + 1) _ rfl ((unhide HE6).alloc _) ⟨w6.heap.size, 0, none⟩ 1 1 [.int .i64 (N : Int)] rfl rfl (new1 _ _ (by simp) _ _) (fun x hx => by simp at hx; subst hx; rfl) (by unfold maxLen; omega) (by omega) (by simp; omega) ?_; intro v7 w7 hown7 hgr7 _ hat7; obtain ⟨ae7, ce7, rfl⟩ := ownsRow_form hown7; have hN3 : endN t0 xs (j + 1) = N := (by have h1 := unhide Hend; rw [unhide Hkw, List.length_append, unhide Hn, unhide HM] at h1; show 2 * _ = N; rw [← h1]; exact hN); have ha7 := (unhide HA6).more (es' := endsL t0 xs (j + 1)) _ hgr7 (by rw [endsL_more, hN3, List.length_append, hel6, List.map_append]; exact hown7) hat7; have HA7 := hide ha7; have Hb7 : Hid (Below B w w7) := (unhide Hb6).trans (((FrX.of_below (X := fun _ => False) ((Below.refl _ _).alloc (Nat.le_refl _) _)).fr.trans (frx_grown (B := B) (T := 3) hgr7 (fun k hk => ⟨(ownsRow_tg (unhide HE6) k hk).1, tg_alloc (ownsRow_tg (unhide HE6) k hk).2 _⟩)).fr).below hsz6); have hsz7 : B ≤ w7.heap.size := Nat.le_trans hsz6 (Nat.le_trans (by simp) hgr7.size); clear hown7 hgr7 hat7 ha7 HA6 HE6 hN3))
      refine (clone_any B q T'.s w7 (unhide HA7).rec'.rec').mono ?_
      rintro e w8 ⟨c, vp, vc, vt, tv, rfl, hcr, hnw, hb8⟩
      have hr8 := ((unhide HA7).kept hb8).recs
      rw [(unhide Hqs).1] at hr8
      have HR8 := hide hr8
      have HC8 := hide hcr
      have HN8 := hide hnw
      have HB8 := hide hb8
      have Hb8 : Hid (Below B w w8) := (unhide Hb7).then' hsz7 hb8
      have hsz8 : B ≤ w8.heap.size := Nat.le_trans hsz7 hb8.size
      clear hr8 hcr hnw hb8
      go_wp2_with (first
        | (at_builtin; refine wpList_append_own_at _ rfl (.tmp 60) (.tmp 62) 108 rfl B 24 ip (.pointer none) 1 8 Tryz.underlying108 hip hip0 hip1 hip2 rfl (by decide) (.slice ar (j + 1) cr) (j + 1) _ rfl ((unhide HR8).alloc _) ⟨w8.heap.size, 0, none⟩ 1 1 [.pointer (some ⟨c, 0, none⟩)] rfl rfl (new1 _ _ (by simp) _ _) (fun x hx => by simp at hx; subst hx; rfl) (by unfold maxLen; omega) (by omega) (by simp; omega) ?_; intro v9 w9 hown9 hgr9 _ _; obtain ⟨ar9, cr9, rfl⟩ := ownsRow_form hown9; have ha9 := (unhide HA7).copy (vr' := .slice ar9 (j + 1 + 1) cr9) (unhide HB8) (unhide HC8) (unhide HN8) _ hgr9 (by rw [List.length_append, (unhide Hqs).1, List.map_append]; exact hown9); have HA9 := hide ha9; have Hb9 : Hid (Below B w w9) := (unhide Hb8).trans (((FrX.of_below (X := fun _ => False) ((Below.refl _ _).alloc (Nat.le_refl _) _)).fr.trans (frx_grown (B := B) (T := 24) hgr9 (fun k hk => ⟨(ownsRow_tg (unhide HR8) k hk).1, tg_alloc (ownsRow_tg (unhide HR8) k hk).2 _⟩)).fr).below hsz8); have hsz9 : B ≤ w9.heap.size := Nat.le_trans hsz8 (Nat.le_trans (by simp) hgr9.size); have bx := ha9.box.cell 1; have lbx := ha9.box.lt; simp only [List.getElem?_toArray, List.getElem?_cons_zero, List.getElem?_cons_succ] at bx; clear hown9 hgr9 ha9 HR8 HC8 HN8 HB8 HA7))
      refine (dayReport_any B p T'.s tx w9 (unhide HA9).led.led (unhide Hm) (unhide HT _ (unhide Hb9))).mono ?_
      rintro e w10 ⟨x10, g10, rfl, _, hb10⟩
      have HA10 := hide ((unhide HA9).kept hb10)
      have Hb10 : Hid (Below B w w10) := (unhide Hb9).then' hsz9 hb10
      have hsz10 : B ≤ w10.heap.size := Nat.le_trans hsz9 hb10.size
      clear hb10 HA9 bx lbx
      go_wp2_with fail
      refine (dayWritesX_any _ B p T'.u [] T'.s w10 (unhide HA10).led.ledW).mono ?_
      rintro e w11 ⟨⟨a11, c11, rfl, _, k4⟩, k2, k3⟩
      have HA11 := hide ((unhide HA10).told k3 k2)
      have Hb11 : Hid (Below B w w11) := (unhide Hb10).trans (k3.fr.below hsz10)
      clear k2 k3 k4 HA10
      go_wp2_with fail
      go_roundg (xs.length - (j + 1))
      case measure => omega
      case rel =>
        have hfin := unhide HA11
        rw [← unhide Hkw, ← unhide Hstep] at hfin
        exact ⟨j + 1, by omega, rfl, by go_num, ⟨_, _, hfin, (unhide Hqs).more c⟩, unhide Hb11⟩
    · obtain rfl : j = xs.length := by omega
      have hrun : krun t0 (xs.take xs.length) = krun t0 xs := by rw [List.take_length]
      rw [hrun] at hn ha
      have hrr := (unhide HG).runR xs
      have hsmr := hrr.small
      rw [List.length_append] at hsmr
      have hpr : PrOk (krun t0 xs).ws := hrr.ws.pr (fun r hr => hrr.oks r (List.mem_of_mem_drop hr)) (by rw [List.length_drop, List.length_append]; omega)
      obtain ⟨hk0, hk1⟩ := pck_in (c := cut) (n := (n : Int) + 1) (by omega)
      obtain ⟨cc, hcc⟩ : ∃ cc : Nat, pck cut ((n : Int) + 1) = cc := ⟨(pck cut ((n : Int) + 1)).toNat, by omega⟩
      rw [hcc] at hk1
      have hcn : cc ≤ n := by omega
      obtain ⟨jj, hjj, hj1, hj2⟩ := cutJ t0 xs cc
      have b2 := ha.box.cell 2
      have b3 := ha.box.cell 3
      simp only [List.getElem?_toArray, List.getElem?_cons_zero, List.getElem?_cons_succ] at b2 b3
      have hlg := ha.log
      rw [hn] at hlg
      have HLg := hide hlg
      have hpp := proper_any B al cl (krun t0 xs).ws wr (by rw [hn]; exact hlg) hpr (by omega)
      rw [hn] at hpp
      have Hpp := hide hpp
      have Hcr : Hid (∀ (wx : World), DskAt wx B pd (dskS rs) → wx.ownsRow B 96 2 (.slice al n cl) n (cellsW (krun t0 xs).ws) → Calls Tryz.prog 25 #[.pointer (some ⟨pd, 0, none⟩), .slice al n cl, .int .i64 (cc : Int), .int .i64 keep] wx fun e w' => e = .returned (.tuple #[]) ∧ (DskAt w' B pd (dskS (rs ++ logR t0 (xs.take jj))) ∨ (jj < xs.length ∧ endN t0 xs jj < cc ∧ (∃ x, xs[jj]? = some x ∧ clY (krun t0 (xs.take jj)).s x.kd x.a x.b x.ls = true) ∧ DskAt w' B pd (dskS (rs ++ logR t0 (xs.take (jj + 1)))))) ∧ FrT B [9] wx w') := by
        intro wx h1 h2
        have hc := crash_any B B pd (dskS rs) al cl (krun t0 xs).ws cc keep wx h1 (dskS_len (by omega)) (by rw [hn]; exact h2) hpr (by omega) (by omega)
        rw [hn] at hc
        refine hc.mono ?_
        rintro e w' ⟨rfl, ⟨ch, _, k1⟩, k2⟩
        refine ⟨rfl, ?_, k2⟩
        rcases cut_disk (unhide HG) xs ch (c := cc) (j := jj) (by omega) hjj hj1 hj2 with h | ⟨i1, i2, i3, h⟩
        · rw [h] at k1; exact .inl k1
        · rw [h] at k1; exact .inr ⟨i1, i2, i3, k1⟩
      have HA0 := hide ha
      have Hqs := hide hqs
      have Hpr := hide hpr
      have Hn := hide hn
      have Hcc := hide hcc
      have Hj1 := hide hj1
      have Hj2 := hide hj2
      clear hgj hlj hsm hn hql hel hqs ha hrun hrr hsmr hpr hlg hcc hj1 hj2 HJ hk0 hpp
      go_wp2_with fail
      refine (unhide Hpp).mono ?_
      rintro e w4 ⟨rfl, hb4⟩
      have HA4 := hide ((unhide HA0).kept hb4)
      have hlg4 := (unhide HA4).log
      rw [unhide Hn] at hlg4
      have HLg4 := hide hlg4
      have c2 := (unhide HA4).box.cell 2
      have c3 := (unhide HA4).box.cell 3
      have l4 := (unhide HA4).box.lt
      simp only [List.getElem?_toArray, List.getElem?_cons_zero, List.getElem?_cons_succ] at c2 c3
      have Hb4 : Hid (Below B w w4) := (unhide Hb).then' hsz hb4
      have hsz4 : B ≤ w4.heap.size := Nat.le_trans hsz hb4.size
      clear hb4 hlg4 HA0 HLg Hpp b2 b3 b0 lb
      go_wp2_with fail
      refine (pick_any cut ((n : Int) + 1) w4 hc0 hc1 (by omega) (by omega)).mono ?_
      rintro e w4' ⟨rfl, hw⟩
      obtain rfl := hw.symm
      rw [unhide Hcc]
      go_wp2_with fail
      refine (unhide Hcr w4 (unhide HA4).dsk (unhide HLg4)).mono ?_
      rintro e w5 ⟨rfl, k1, k2⟩
      obtain ⟨J, hJl, hJ, hdJ⟩ : ∃ J, J ≤ xs.length ∧ (J = jj ∨ (J = jj + 1 ∧ jj < xs.length ∧ endN t0 xs jj < cc ∧ ∃ x, xs[jj]? = some x ∧ clY (krun t0 (xs.take jj)).s x.kd x.a x.b x.ls = true)) ∧ DskAt w5 B pd (dskS (rs ++ logR t0 (xs.take J))) := by
        rcases k1 with k1 | ⟨i1, i2, i3, k1⟩
        · exact ⟨jj, hjj, .inl rfl, k1⟩
        · exact ⟨jj + 1, by omega, .inr ⟨rfl, i1, i2, i3⟩, k1⟩
      have hst := cut_state (unhide HG) xs J
      have hs5 : Rst w5 B (endsL t0 xs xs.length) qs (.slice ae (xs.length + 1) ce) (.slice ar (xs.length + 1) cr) := (unhide HA4).rst.frT k2 (by decide) (by decide) (by decide) (by decide)
      have HS5 := hide hs5
      have HD5 := hide hdJ
      have HJ := hide hJ
      have HStJ := hide hst
      have Hb5 : Hid (Below B w w5) := (unhide Hb4).trans (k2.below hsz4)
      have hsz5 : B ≤ w5.heap.size := Nat.le_trans hsz4 k2.size
      have hsmJ := hst.2.small
      clear k1 k2 hs5 hdJ hJ hst HA4 HLg4 Hcr c2 c3 l4
      go_wp2_with fail
      refine (dimage_any B pd _ w5 (unhide HD5) (fun s hs => by rw [dsk_pos (unhide HStJ).2.oks s hs]; omega) (by rw [dskS_len (by omega)]; omega) (by rw [dskS_flat (by omega)]; unfold dskL; rw [List.length_append, List.length_replicate]; omega)).mono ?_
      rintro e w6 ⟨u6, rfl, hu6, hb6⟩
      rw [dskS_flat (by omega)] at hu6
      have hmt := (unhide HStJ).2.mnt hu6
      have HS6 := hide ((unhide HS5).kept hb6)
      have HD6 := hide ((unhide HD5).kept hb6)
      have Hb6 : Hid (Below B w w6) := (unhide Hb5).then' hsz5 hb6
      have hsz6 : B ≤ w6.heap.size := Nat.le_trans hsz5 hb6.size
      have Hmt := hide hmt
      clear hu6 hb6 HS5 HD5 hmt
      go_wp2_with fail
      refine (mount_any u6 w6).mono ?_
      rintro e w7 ⟨k1, k2⟩
      have k1' := k1.resolve_left (fun k => k.1 (unhide Hmt).1)
      obtain ⟨_, pm, rfl, k3⟩ := k1'
      rw [(unhide Hmt).2.1, (unhide Hmt).2.2] at k3
      have HL7 : Hid (LedW w7 B pm (krun t0 (xs.take J)).u [] (krun t0 (xs.take J)).s) := k3.base hsz6
      have HS7 := hide ((unhide HS6).kept k2)
      have HD7 := hide ((unhide HD6).kept k2)
      have Hb7 : Hid (Below B w w7) := (unhide Hb6).then' hsz6 k2
      have hsz7 : B ≤ w7.heap.size := Nat.le_trans hsz6 k2.size
      obtain ⟨ge, _, ee1, hge, hge'⟩ := ownsRow_some (unhide HS7).ends' (by omega)
      simp only [Value.slice.injEq, true_and] at ee1
      obtain ⟨rfl, rfl⟩ := ee1
      have hrr7 := (unhide HS7).recs
      rw [(unhide Hqs).1] at hrr7
      obtain ⟨gr, _, er1, hgr, hgr'⟩ := ownsRow_some hrr7 (by omega)
      simp only [Value.slice.injEq, true_and] at er1
      obtain ⟨rfl, rfl⟩ := er1
      have Hrr7 := hide hrr7
      have hccn : (cc : Int) ≤ 1000 := by omega
      clear k1 k2 k3 HS6 HD6 Hmt hrr7
      go_wp2_with fail
      go_loopg [21] jj (fun m vk wr => ∃ k : Nat, k ≤ jj ∧ m = jj - k ∧ vk = .int .i64 k ∧ wr = w7)
      case atStart => exact ⟨0, by omega, rfl, rfl, rfl⟩
      case round =>
        obtain ⟨k, hk, rfl, rfl, hwr⟩ := hrel
        obtain rfl := hwr.symm
        by_cases hkj : k < jj
        · have he := ownsRow_cell (unhide HS7).ends' (j := k + 1) (u := .int .i64 (endN t0 xs (k + 1) : Int)) (by rw [List.getElem?_map, endsL_at t0 xs (by omega)]; rfl)
          have hmn := endN_mono t0 xs (i := k + 1) (j := jj) (by omega) (by omega)
          have hm1 := unhide Hj1
          obtain ⟨ek, hek⟩ : ∃ ek, endN t0 xs (k + 1) = ek := ⟨_, rfl⟩
          rw [hek] at he hmn
          have hle : (ek : Int) ≤ (cc : Int) := by omega
          have hki : (k : Int) + 1 < ((xs.length + 1 : Nat) : Int) := by omega
          clear hek hmn hm1
          go_wp2_with fail
          go_roundg (jj - (k + 1))
          case measure => omega
          case rel => exact ⟨k + 1, by omega, rfl, by go_num, rfl⟩
        · obtain rfl : k = jj := by omega
          obtain ⟨cj, hcj⟩ := (unhide Hqs).2 k (by omega)
          have hcell := ownsRow_cell (unhide Hrr7) (j := k) (u := .pointer (some ⟨cj, 0, none⟩)) (by rw [List.getElem?_map, hcj]; rfl)
          have hrj := (unhide HS7).cps _ (List.mem_of_getElem? hcj)
          simp only at hrj
          have HRj := hide hrj
          clear hcj hrj
          have hki : (k : Int) < ((xs.length + 1 : Nat) : Int) := by omega
          rcases unhide HJ with hJk | ⟨hJk, hkl, hec, x, hxx, hy⟩
          · subst hJk
            have Htl := hide (tells_any B B cj pm (krun t0 (xs.take J)).s w7 (unhide HRj) (unhide HL7).led (unhide HT _ (unhide Hb7)))
            have Hfin : Hid (∀ w', Below w7.heap.size w7 w' → Rec w' B cj (krun t0 (xs.take J)).s ∧ LedW w' B pm (krun t0 (xs.take J)).u [] (krun t0 (xs.take J)).s ∧ DskAt w' B pd (dskS (rs ++ logR t0 (xs.take J))) ∧ Below B w w') := fun w' hb => ⟨(unhide HRj).kept hb, (unhide HL7).kept hb, (unhide HD7).kept hb, (unhide Hb7).then' hsz7 hb⟩
            have Hlg := hide (unhide HStJ).1
            by_cases hkl : J = xs.length
            · have hno : ¬ ((J : Int) + 1 < ((xs.length + 1 : Nat) : Int)) := by omega
              clear hkl
              go_wp2_with fail
              refine (unhide Htl).mono ?_
              rintro e w8 ⟨rfl, hb8⟩
              have hcell8 := (hb8.cell (p := ⟨gr, J, none⟩) hgr').trans hcell
              have HB8 := hide hb8
              clear hb8 hcell
              go_upto_region 32 with fail
              go_quiet (fail)
              go_wp2_with fail
              go_ret2
              obtain ⟨f1, f2, f3, f4⟩ := unhide Hfin _ ((unhide HB8).drewN _)
              exact ⟨pm, cj, _, _, _, rfl, f1, f2, f3, unhide Hlg, f4⟩
            · have he := ownsRow_cell (unhide HS7).ends' (j := J + 1) (u := .int .i64 (endN t0 xs (J + 1) : Int)) (by rw [List.getElem?_map, endsL_at t0 xs (by omega)]; rfl)
              have hj2 := (unhide Hj2).resolve_left hkl
              obtain ⟨ek, hek⟩ : ∃ ek, endN t0 xs (J + 1) = ek := ⟨_, rfl⟩
              rw [hek] at he hj2
              have hle : ¬ ((ek : Int) ≤ (cc : Int)) := by omega
              have hlt3 : (J : Int) + 1 < ((xs.length + 1 : Nat) : Int) := by omega
              clear hek
              go_wp2_with fail
              refine (unhide Htl).mono ?_
              rintro e w8 ⟨rfl, hb8⟩
              have hcell8 := (hb8.cell (p := ⟨gr, J, none⟩) hgr').trans hcell
              have HB8 := hide hb8
              clear hb8 hcell he
              go_upto_region 32 with fail
              go_quiet (fail)
              go_wp2_with fail
              go_ret2
              obtain ⟨f1, f2, f3, f4⟩ := unhide Hfin _ ((unhide HB8).drewN _)
              exact ⟨pm, cj, _, _, _, rfl, f1, f2, f3, unhide Hlg, f4⟩
          · subst hJk
            have hstp := krun_step (t := t0) hxx
            have hgk := (unhide HG).runR (xs.take k)
            have hdf := told_diff hgk.good.1 hy
            have hss : (krun t0 (xs.take (k + 1))).s = (clE (krun t0 (xs.take k)).s x.kd x.a x.b x.ls).2.2 := by rw [hstp]; rfl
            rw [← hss] at hdf
            obtain ⟨ck, hck⟩ := (unhide Hqs).2 (k + 1) (by omega)
            have hcell1 := ownsRow_cell (unhide Hrr7) (j := k + 1) (u := .pointer (some ⟨ck, 0, none⟩)) (by rw [List.getElem?_map, hck]; rfl)
            have hrk := (unhide HS7).cps _ (List.mem_of_getElem? hck)
            simp only at hrk
            have HRk := hide hrk
            have he := ownsRow_cell (unhide HS7).ends' (j := k + 1) (u := .int .i64 (endN t0 xs (k + 1) : Int)) (by rw [List.getElem?_map, endsL_at t0 xs (by omega)]; rfl)
            have he0 := ownsRow_cell (unhide HS7).ends' (j := k) (u := .int .i64 (endN t0 xs k : Int)) (by rw [List.getElem?_map, endsL_at t0 xs (by omega)]; rfl)
            have hj2 := (unhide Hj2).resolve_left (by omega)
            obtain ⟨ek, hek⟩ : ∃ ek, endN t0 xs (k + 1) = ek := ⟨_, rfl⟩
            obtain ⟨ej, hej⟩ : ∃ ej, endN t0 xs k = ej := ⟨_, rfl⟩
            rw [hek] at he hj2
            rw [hej] at he0 hec
            have hle : ¬ ((ek : Int) ≤ (cc : Int)) := by omega
            have hlt3 : (k : Int) + 1 < ((xs.length + 1 : Nat) : Int) := by omega
            have hlt4 : (ej : Int) < (cc : Int) := by omega
            have Htn := hide (tellsNo_any B B cj pm _ _ w7 (unhide HRj) (unhide HL7).led (unhide HT _ (unhide Hb7)) hdf)
            have Htl : Hid (∀ w', Below w7.heap.size w7 w' → Calls Tryz.prog 28 #[.pointer (some ⟨ck, 0, none⟩), .pointer (some ⟨pm, 0, none⟩)] w' fun e w'' => e = .returned (.bool true) ∧ Below w'.heap.size w' w'') := fun w' hb => tells_any B B ck pm (krun t0 (xs.take (k + 1))).s w' ((unhide HRk).kept hb) ((unhide HL7).kept hb).led (unhide HT _ ((unhide Hb7).then' hsz7 hb))
            have Hfin : Hid (∀ w', Below w7.heap.size w7 w' → Rec w' B ck (krun t0 (xs.take (k + 1))).s ∧ LedW w' B pm (krun t0 (xs.take (k + 1))).u [] (krun t0 (xs.take (k + 1))).s ∧ DskAt w' B pd (dskS (rs ++ logR t0 (xs.take (k + 1)))) ∧ Below B w w') := fun w' hb => ⟨(unhide HRk).kept hb, (unhide HL7).kept hb, (unhide HD7).kept hb, (unhide Hb7).then' hsz7 hb⟩
            have Hlg := hide (unhide HStJ).1
            clear hstp hgk hdf hss hck hrk hek hej hxx hy
            go_wp2_with fail
            refine (unhide Htn).mono ?_
            rintro e w8 ⟨rfl, hb8⟩
            have he0' := (hb8.cell (p := ⟨ge, k, none⟩) hge').trans he0
            have hcell8 := (hb8.cell (p := ⟨gr, k + 1, none⟩) hgr').trans hcell1
            have hgr8 : gr < w8.heap.size := Nat.lt_of_lt_of_le hgr' hb8.size
            have HB8 := hide hb8
            clear hb8 hcell hcell1 he he0
            go_wp2_with fail
            refine (unhide Htl w8 (unhide HB8)).mono ?_
            rintro e w9 ⟨rfl, hb9⟩
            have hcell9 := (hb9.cell (p := ⟨gr, k + 1, none⟩) hgr8).trans hcell8
            have HB9 := hide ((unhide HB8).then hb9)
            clear hb9 hcell8 he0'
            go_upto_region 36 with fail
            go_quiet (fail)
            go_wp2_with fail
            go_ret2
            obtain ⟨f1, f2, f3, f4⟩ := unhide Hfin _ ((unhide HB9).drewN _)
            exact ⟨pm, ck, _, _, _, rfl, f1, f2, f3, unhide Hlg, f4⟩
end Go.Proofs.YtdchbenfccofpabGreatDoor
namespace Go.Proofs.YtdchbenfccofpabGreatDoor
open Go.RowKit Db

/-- A round as it came in. -/
structure KRnd where
  ao : Option Addr
  cap : Nat
  xs : List KAct
  tx : ByteArray
  cut : Int
  keep : Int
structure RndOk (w : World) (B : Nat) (r : KRnd) : Prop where
  acts : KActsAt w B (.slice r.ao r.xs.length r.cap) r.xs
  few : r.xs.length ≤ 2940000000000
  txt : r.tx.size ≤ maxLen
  lo : -9223372036854775808 ≤ r.cut
  hi : r.cut ≤ 9223372036854775807
structure KRndsAt (w : World) (B : Nat) (v : Value) (rds : List KRnd) : Prop where
  form : ∃ ao cap, v = .slice ao rds.length cap ∧ (rds = [] ∨ ∃ b off, ao = some ⟨b, off, none⟩ ∧ b < B ∧ ∀ (i : Nat) (r : KRnd), rds[i]? = some r →
    w.cell? ⟨b, off + i * 4, none⟩ = some (.slice r.ao r.xs.length r.cap) ∧ w.cell? ⟨b, off + i * 4 + 1, none⟩ = some (.string r.tx) ∧ w.cell? ⟨b, off + i * 4 + 2, none⟩ = some (.int .i64 r.cut) ∧
    w.cell? ⟨b, off + i * 4 + 3, none⟩ = some (.int .i64 r.keep))
  oks : ∀ r ∈ rds, RndOk w B r
theorem KRndsAt.below {w w' : World} {B : Nat} {v : Value} {rds : List KRnd} (h : KRndsAt w B v rds) (hb : Below B w w') : KRndsAt w' B v rds := by
  obtain ⟨⟨ao, cap, rfl, hr⟩, ho⟩ := h
  refine ⟨⟨ao, cap, rfl, ?_⟩, fun r hr => ⟨(ho r hr).acts.below hb, (ho r hr).few, (ho r hr).txt, (ho r hr).lo, (ho r hr).hi⟩⟩
  rcases hr with hr | ⟨b, off, rfl, hlt, hc⟩
  · exact .inl hr
  · refine .inr ⟨b, off, rfl, hlt, fun i x hx => ?_⟩
    have h1 : ∀ j, w'.cell? ⟨b, j, none⟩ = w.cell? ⟨b, j, none⟩ := fun j => hb.cell (p := ⟨b, j, none⟩) hlt
    rw [h1, h1, h1, h1]
    exact hc i x hx
/-- Between two rounds. -/
def RndSt (w : World) (B p q pd : Nat) : Prop := ∃ rs s u, Rec w B q s ∧ LedW w B p u [] s ∧ DskAt w B pd (dskS rs) ∧ LogW rs rs.length ⟨s, u, []⟩

set_option maxRecDepth 100000 in
set_option maxHeartbeats 8000000 in
theorem crashes_walk (v : Value) (rds : List KRnd) (w : World) (h : KRndsAt w w.heap.size v rds) (hlen : rds.length ≤ 9223372036854775800) (ht : Tab w) :
    Calls Tryz.prog 6 #[v] w fun e w' => e = .returned (.bool true) ∧ Below w.heap.size w w' := by
  have HT : Hid (∀ w', Below w.heap.size w w' → Tab w') := fun w' hf => ht.below hf
  obtain ⟨ao, cap, rfl⟩ : ∃ ao cap, v = .slice ao rds.length cap := by obtain ⟨⟨ao, cap, rfl, _⟩, _⟩ := h; exact ⟨ao, cap, rfl⟩
  have H := hide h
  have Hr := hide (ready_any w ht)
  clear h ht
  go_enter Tryz.func6, Tryz.ntmps6
  go_wp2_with fail
  refine (unhide Hr).mono ?_
  rintro e w1 ⟨q0, p0, rfl, _, hb1⟩
  have Hb1 := hide hb1
  have hsz1 := hb1.size
  clear hb1 Hr
  go_wp2_with fail
  refine (dayNew_any w1).mono ?_
  rintro e w2 ⟨p, rfl, hn2, hb2⟩
  have HL2 : Hid (LedW w2 w.heap.size p 0 [] bk0) := hn2.base hsz1
  have Hb2 := hide ((unhide Hb1).then' hsz1 hb2)
  have hsz2 := (unhide Hb2).size
  clear hn2 hb2
  go_wp2_with fail
  refine (blank_any w2).mono ?_
  rintro e w3 ⟨q, rfl, hr3, hb3⟩
  have HL3 := hide ((unhide HL2).kept hb3)
  have HR3 : Hid (Rec w3 w.heap.size q bk0) := hr3.base hsz2
  have Hb3 := hide ((unhide Hb2).then' hsz2 hb3)
  have hsz3 := (unhide Hb3).size
  clear hr3 hb3 HL2
  go_wp2_with fail
  refine (empty_any w3).mono ?_
  rintro e w4 ⟨pd, rfl, hd4, hb4⟩
  have HS4 : Hid (RndSt w4 w.heap.size p q pd) := by
    refine ⟨[], bk0, 0, (unhide HR3).kept hb4, (unhide HL3).kept hb4, ?_, LogW.start⟩
    obtain ⟨h0, v, h1, h2⟩ := hd4
    exact ⟨by omega, v, h1, ownsRow_base h2 (fun k hk => by have := (own_lt h2 k hk).1; omega)⟩
  have Hb4 := hide ((unhide Hb3).then' hsz3 hb4)
  clear hd4 hb4 HL3 HR3
  go_wp2_with fail
  go_loopg [6, 7, 9] rds.length (fun m vb vr i wr => ∃ j p q : Nat, j ≤ rds.length ∧ m = rds.length - j ∧ i = .int .i64 j ∧ vb = .pointer (some ⟨p, 0, none⟩) ∧ vr = .pointer (some ⟨q, 0, none⟩) ∧ Hid (RndSt wr w.heap.size p q pd) ∧ Hid (Below w.heap.size w wr))
  case atStart => exact ⟨0, p, q, by omega, rfl, rfl, rfl, rfl, unhide HS4, unhide Hb4⟩
  case round =>
    obtain ⟨j, p, q, hj, rfl, rfl, rfl, rfl, HS, Hb⟩ := hrel
    have hsz := (unhide Hb).size
    by_cases hlt : j < rds.length
    · obtain ⟨x, hx⟩ : ∃ x, rds[j]? = some x := ⟨rds[j], List.getElem?_eq_getElem hlt⟩
      have hat := (unhide H).below (unhide Hb)
      have hok := hat.oks x (List.mem_of_getElem? hx)
      obtain ⟨⟨ao', cap', e1, hr⟩, _⟩ := hat
      simp only [Value.slice.injEq, true_and] at e1
      obtain ⟨rfl, rfl⟩ := e1
      have hr2 := hr.resolve_left (by rintro rfl; simp at hx)
      obtain ⟨b, off, rfl, hbl, hc⟩ := hr2
      obtain ⟨d0, d1, d2, d3⟩ := hc j x hx
      have hjj : (j : Int) < (rds.length : Int) := by omega
      obtain ⟨rs, s, u, i1, i2, i3, i4⟩ := unhide HS
      obtain ⟨xao, xcap, xxs, xtx, xcut, xkeep⟩ := x
      simp only at d0 d1 d2 d3
      have Haf := hide (after_any w.heap.size p q pd rs s u xao xcap xxs xtx xcut xkeep wr hsz i1 i2 i3 i4 hok.acts hok.few hok.txt hok.lo hok.hi (fun w' hb => unhide HT w' ((unhide Hb).trans hb)))
      clear hr hc hx hok i1 i2 i3 i4 HS
      go_wp2_with fail
      refine (unhide Haf).mono ?_
      rintro e w5 ⟨p', q', rs', s', u', rfl, k1, k2, k3, k4, k5⟩
      have HS5 : Hid (RndSt w5 w.heap.size p' q' pd) := ⟨rs', s', u', k1, k2, k3, k4⟩
      have Hb5 := hide ((unhide Hb).trans k5)
      clear k1 k2 k3 k4 k5 Haf
      go_wp2_with fail
      go_roundg (rds.length - (j + 1))
      case measure => omega
      case rel => exact ⟨j + 1, p', q', by omega, rfl, by go_num, rfl, rfl, unhide HS5, unhide Hb5⟩
    · obtain rfl : j = rds.length := by omega
      obtain ⟨rs, s, u, i1, i2, i3, i4⟩ := unhide HS
      have Htl := hide (tells_any w.heap.size w.heap.size q p s wr i1 i2.led (unhide HT _ (unhide Hb)))
      clear i1 i2 i3 i4 HS
      go_wp2_with fail
      refine (unhide Htl).mono ?_
      rintro e w5 ⟨rfl, hb5⟩
      have Hb5 := hide ((unhide Hb).then' hsz hb5)
      clear hb5
      go_wp2_with fail
      go_ret
      exact ⟨rfl, unhide Hb5⟩
end Go.Proofs.YtdchbenfccofpabGreatDoor
namespace Go.Proofs.YtdchbenfccofpabGreatDoor
open Go.RowKit Db Go.ChangeShapes Go.WideShapes Go.ChangeAt Go.WideMaps Go.WideElems Go.Deep

theorem cRnd : Tryz.prog.cellsOf 62 = 4 := by kernel_rfl
theorem bRnd : Tryz.prog.bytesOf 62 = 56 := by kernel_rfl
theorem cActs : Tryz.prog.cellsOf 22 = 1 := by kernel_rfl

section
variable {H : Type} {enc : TypeId × Value → H} {W : World} {fuel : Nat} {x : DataW H × List MemPlace}
instance : Inhabited KRnd := ⟨⟨none, 0, [], ⟨#[]⟩, 0, 0⟩⟩
/-- Steps within something else. -/
theorem kopen_acts' {v : Value} (h : DataW.trod enc Tryz.prog W 0 (fun _ => true) true fuel 22 [v] = some x) (hsz : ∀ n ∈ x.1.weights Tryz.prog 22, n ≤ reachBytes) :
    ∃ ys : List KAct, KActsAt W W.heap.size v ys ∧ ys.length ≤ 2940000000000 := by
  rcases open_slice Tryz.underlying22 h with ⟨hc, hx⟩ | ⟨a, len, cap, m, n, D, Pl, hc, _, hl, hm, hmm, hx, hel⟩
  · simp only [List.cons.injEq, and_true] at hc
    subst hc
    exact ⟨[], ⟨⟨none, 0, rfl, .inl rfl⟩, by simp⟩, by simp⟩
  · simp only [List.cons.injEq, and_true] at hc
    subst hc
    simp only [if_true] at hmm
    subst hx
    have hbig := hsz ((len + (m - len)) * 48) (by simp [DataW.weights, Tryz.underlying22, bKAct])
    rw [reach_eq] at hbig
    by_cases h0 : len = 0
    · subst h0
      exact ⟨[], ⟨⟨some a, cap, rfl, .inl rfl⟩, by simp⟩, by simp⟩
    · obtain ⟨b, off, spot⟩ := a
      have each : ∀ i, i < len → ∃ y : KAct, (∀ (f : Nat) (u : Value), [Value.int .i64 y.kd, .int .i64 y.a, .int .i64 y.b, .slice y.ao y.ls.length y.cap][f]? = some u → W.cell? ((⟨b, off, spot⟩ : Addr).add (i * 4 + f)) = some u) ∧ KOk W W.heap.size y := by
        intro i hi
        obtain ⟨cs', h1, h2⟩ := hel i (by omega)
        rw [cKAct] at h1
        obtain ⟨_, hlen, hcell⟩ := World.cells?_some h1
        obtain ⟨y, rfl, hy⟩ := kopen_act h2 hlen (fun k hk => by
          refine hsz k ?_
          simp only [DataW.weights, Tryz.underlying22, List.mem_cons, List.mem_append]
          exact Or.inr (Or.inl (weightsAll_mem (List.mem_map.2 ⟨i, List.mem_range.2 hi, rfl⟩) _ hk)))
        refine ⟨y, fun f u hu => ?_, hy⟩
        have hf : f < 4 := by have := (List.getElem?_eq_some_iff.1 hu).1; simpa using this
        have he := hcell f hf
        rw [hu, add_add] at he
        exact he
      have hspot : spot = none := by
        obtain ⟨y, hy, _⟩ := each 0 (by omega)
        have := World.cell?_spot (hy 0 _ rfl)
        simpa [Addr.add] using this
      subst hspot
      have hbl : b < W.heap.size := by
        obtain ⟨y, hy, _⟩ := each 0 (by omega)
        have := blk_lt (hy 0 _ rfl)
        simpa [Addr.add] using this
      obtain ⟨Y, hY⟩ := choose_lt each
      refine ⟨(List.range len).map Y, ⟨⟨some ⟨b, off, none⟩, cap, by simp, .inr ⟨b, off, rfl, hbl, fun i y hy => ?_⟩⟩, fun y hy => ?_⟩, by simp; omega⟩
      · rw [List.getElem?_map] at hy
        have hi : i < len := by
          rcases Nat.lt_or_ge i len with hi | hi
          · exact hi
          · rw [List.getElem?_eq_none (by simpa using hi)] at hy; simp at hy
        rw [List.getElem?_range hi] at hy
        simp only [Option.map_some, Option.some.injEq] at hy
        subst hy
        have hc := (hY i hi).1
        refine ⟨?_, ?_, ?_, ?_⟩
        · have := hc 0 _ rfl; rw [Addr.add_lit] at this; simpa [Nat.add_assoc] using this
        · have := hc 1 _ rfl; rw [Addr.add_lit] at this; simpa [Nat.add_assoc] using this
        · have := hc 2 _ rfl; rw [Addr.add_lit] at this; simpa [Nat.add_assoc] using this
        · have := hc 3 _ rfl; rw [Addr.add_lit] at this; simpa [Nat.add_assoc] using this
      · obtain ⟨i, hi, rfl⟩ := List.mem_map.1 hy
        exact (hY i (List.mem_range.1 hi)).2

set_option maxRecDepth 100000 in
/-- One round, from its cells. -/
theorem kopen_rnd {cs : List Value} (h : DataW.trod enc Tryz.prog W 0 (fun _ => true) true fuel 62 cs = some x) (hcs : cs.length = 4) (hsz : ∀ n ∈ x.1.weights Tryz.prog 62, n ≤ reachBytes) :
    ∃ y : KRnd, cs = [.slice y.ao y.xs.length y.cap, .string y.tx, .int .i64 y.cut, .int .i64 y.keep] ∧ RndOk W W.heap.size y := by
  obtain ⟨xs, n, rfl, rfl, _, hxl, hf⟩ := DataW.trod_struct Tryz.underlying62 h
  match cs, hcs, xs, hxl with
  | [v0, v1, v2, v3], _, [y0, y1, y2, y3], _ =>
    have g0 := hf 0 _ rfl
    have g1 := hf 1 _ rfl
    have g2 := hf 2 _ rfl
    have g3 := hf 3 _ rfl
    simp [cInt, cActs, cStr] at g0 g1 g2 g3
    obtain ⟨ys, hys, hyl⟩ := kopen_acts' g0 (fun k hk => hsz k (by
      simp only [List.map_cons, List.map_nil, DataW.weights, Tryz.underlying62]
      simp [DataW.weightsEach, hk]))
    obtain ⟨ao, cap, e0⟩ : ∃ ao cap, v0 = .slice ao ys.length cap := by obtain ⟨⟨ao, cap, e, _⟩, _⟩ := hys; exact ⟨ao, cap, e⟩
    subst e0
    obtain ⟨s1, e1, _, hs1⟩ := DataW.trod_string Tryz.underlying9 g1
    obtain ⟨k2, e2, _, hk2⟩ := DataW.trod_int Tryz.underlying3 g2
    obtain ⟨k3, e3, _⟩ := DataW.trod_int Tryz.underlying3 g3
    simp only [List.cons.injEq, and_true] at e1 e2 e3
    subst e1 e2 e3
    have hb : -9223372036854775808 ≤ k2 ∧ k2 ≤ 9223372036854775807 := by
      simp [Lit.wf, IntKind.min, IntKind.max, IntKind.bits, IntKind.signed] at hk2
      omega
    exact ⟨⟨ao, cap, ys, s1, k2, k3⟩, rfl, hys, hyl, hs1, hb.1, hb.2⟩
/-- All rounds. -/
theorem kopen_rnds {v : Value} {ts : List TypeId} {ds : List (DataW H)} (h : DataW.trod enc Tryz.prog W 0 (fun _ => true) true fuel 58 [v] = some x) (hsz : (DataW.weightsEach Tryz.prog ts ds).all (· ≤ reachBytes) = true) {j : Nat} (hj : ts[j]? = some 58) (hd : ds[j]? = some x.1) :
    ∃ ys : List KRnd, KRndsAt W W.heap.size v ys ∧ ys.length ≤ 9223372036854775800 := by
  rcases open_slice Tryz.underlying58 h with ⟨hc, hx⟩ | ⟨a, len, cap, m, n, D, Pl, hc, _, hl, hm, hmm, hx, hel⟩
  · simp only [List.cons.injEq, and_true] at hc
    subst hc
    exact ⟨[], ⟨⟨none, 0, rfl, .inl rfl⟩, by simp⟩, by simp⟩
  · simp only [List.cons.injEq, and_true] at hc
    subst hc
    simp only [if_true] at hmm
    subst hx
    have hbig := sized_slice hsz hj hd Tryz.underlying58
    rw [bRnd, reach_eq] at hbig
    simp only [List.length_map, List.length_range] at hbig
    by_cases h0 : len = 0
    · subst h0
      exact ⟨[], ⟨⟨some a, cap, rfl, .inl rfl⟩, by simp⟩, by simp⟩
    · obtain ⟨b, off, spot⟩ := a
      have each : ∀ i, i < len → ∃ y : KRnd, (∀ (f : Nat) (u : Value), [Value.slice y.ao y.xs.length y.cap, .string y.tx, .int .i64 y.cut, .int .i64 y.keep][f]? = some u → W.cell? ((⟨b, off, spot⟩ : Addr).add (i * 4 + f)) = some u) ∧ RndOk W W.heap.size y := by
        intro i hi
        obtain ⟨cs', h1, h2⟩ := hel i (by omega)
        rw [cRnd] at h1
        obtain ⟨_, hlen, hcell⟩ := World.cells?_some h1
        obtain ⟨y, rfl, hy⟩ := kopen_rnd h2 hlen (fun k hk => by
          refine of_decide_eq_true (List.all_eq_true.1 hsz _ (DataW.weights_mem_each hj hd _ ?_))
          simp only [DataW.weights, Tryz.underlying58, List.mem_cons, List.mem_append]
          exact Or.inr (Or.inl (weightsAll_mem (List.mem_map.2 ⟨i, List.mem_range.2 hi, rfl⟩) _ hk)))
        refine ⟨y, fun f u hu => ?_, hy⟩
        have hf : f < 4 := by have := (List.getElem?_eq_some_iff.1 hu).1; simpa using this
        have he := hcell f hf
        rw [hu, add_add] at he
        exact he
      have hspot : spot = none := by
        obtain ⟨y, hy, _⟩ := each 0 (by omega)
        have := World.cell?_spot (hy 0 _ rfl)
        simpa [Addr.add] using this
      subst hspot
      have hbl : b < W.heap.size := by
        obtain ⟨y, hy, _⟩ := each 0 (by omega)
        have := blk_lt (hy 0 _ rfl)
        simpa [Addr.add] using this
      obtain ⟨Y, hY⟩ := choose_lt each
      refine ⟨(List.range len).map Y, ⟨⟨some ⟨b, off, none⟩, cap, by simp, .inr ⟨b, off, rfl, hbl, fun i y hy => ?_⟩⟩, fun y hy => ?_⟩, by simp; omega⟩
      · rw [List.getElem?_map] at hy
        have hi : i < len := by
          rcases Nat.lt_or_ge i len with hi | hi
          · exact hi
          · rw [List.getElem?_eq_none (by simpa using hi)] at hy; simp at hy
        rw [List.getElem?_range hi] at hy
        simp only [Option.map_some, Option.some.injEq] at hy
        subst hy
        have hc := (hY i hi).1
        refine ⟨?_, ?_, ?_, ?_⟩
        · have := hc 0 _ rfl; rw [Addr.add_lit] at this; simpa [Nat.add_assoc] using this
        · have := hc 1 _ rfl; rw [Addr.add_lit] at this; simpa [Nat.add_assoc] using this
        · have := hc 2 _ rfl; rw [Addr.add_lit] at this; simpa [Nat.add_assoc] using this
        · have := hc 3 _ rfl; rw [Addr.add_lit] at this; simpa [Nat.add_assoc] using this
      · obtain ⟨i, hi, rfl⟩ := List.mem_map.1 hy
        exact (hY i (List.mem_range.1 hi)).2
end
end Go.Proofs.YtdchbenfccofpabGreatDoor
