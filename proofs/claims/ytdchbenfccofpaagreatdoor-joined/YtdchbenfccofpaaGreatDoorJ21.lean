/- Joined: the law's walk. -/
import Derived.Test.YtdchbenfccofpaaGreatDoorJ20
namespace Go.Proofs.YtdchbenfccofpaaGreatDoor
open Go.RowKit Db

set_option maxRecDepth 100000 in
set_option maxHeartbeats 8000000 in
theorem joined_walk (v : Value) (xs : List KAct) (c d f : Int) (w : World) (h : KActsAt w w.heap.size v xs) (hlen : xs.length ≤ 9223372036854775800) (hc0 : -9223372036854775808 ≤ c) (hc1 : c ≤ 9223372036854775807) (hd0 : -9223372036854775808 ≤ d) (hd1 : d ≤ 9223372036854775807) (hf0 : -9223372036854775808 ≤ f) (hf1 : f ≤ 9223372036854775807) (ht : Tab w) :
    Calls Tryz.prog 10 #[v, .int .i64 c, .int .i64 d, .int .i64 f] w fun e w' => e = .returned (.bool true) ∧ Below w.heap.size w w' := by
  obtain ⟨ao, cap, rfl⟩ : ∃ ao cap, v = .slice ao xs.length cap := by obtain ⟨⟨ao, cap, rfl, _⟩, _⟩ := h; exact ⟨ao, cap, rfl⟩
  have H := hide h
  have Ht := hide ht
  obtain ⟨hgood, _⟩ := krun_root xs rdy rdy_root.1 rdy_root.2
  obtain ⟨⟨s, u0, ws0⟩, hks⟩ : ∃ t, krun rdy xs = t := ⟨_, rfl⟩
  rw [hks] at hgood
  simp only at hgood
  have Hks := hide hks
  have Hgood := hide hgood
  have hfew := hgood.few
  obtain ⟨N, hN⟩ : ∃ N, s.acs.length = N := ⟨_, rfl⟩
  have HN := hide hN
  rw [hN] at hfew
  obtain ⟨x, hx⟩ : ∃ x, pck c 999 = x := ⟨_, rfl⟩
  have hxi := pck_in (c := c) (n := 999) (by omega)
  rw [hx] at hxi
  obtain ⟨y1, hy⟩ : ∃ y, pck d (999 - x) = y := ⟨_, rfl⟩
  have hyi := pck_in (c := d) (n := 999 - x) (by omega)
  rw [hy] at hyi
  obtain ⟨z1, hz⟩ : ∃ z, pck f (999 - (x + y1)) = z := ⟨_, rfl⟩
  have hzi := pck_in (c := f) (n := 999 - (x + y1)) (by omega)
  rw [hz] at hzi
  have Hp1 := hide (fun wx : World => pick_any c 999 wx hc0 hc1 (by omega) (by omega))
  have Hp2 := hide (fun wx : World => pick_any d (999 - x) wx hd0 hd1 (by omega) (by omega))
  have Hp3 := hide (fun wx : World => pick_any f (999 - (x + y1)) wx hf0 hf1 (by omega) (by omega))
  rw [hx] at Hp1
  rw [hy] at Hp2
  rw [hz] at Hp3
  have HbA : Hid (∀ (q : Int → Bool) (x y : Int), (-256000000000000 ≤ (tkT q x y s.txs).1 ∧ (tkT q x y s.txs).1 ≤ 256000000000000) ∧ (-256000000000000 ≤ (tkT q x y s.txs).2 ∧ (tkT q x y s.txs).2 ≤ 256000000000000)) := fun q x y => by
    have h := tkT_le q x y s.txs (fun t ht => ⟨((unhide Hgood).tx t ht).2.2.2.2.1, fun l hl => (((unhide Hgood).tx t ht).2.2.2.2.2 l hl).2.2⟩)
    have h64 := (unhide Hgood).posts
    exact ⟨⟨by omega, by omega⟩, ⟨by omega, by omega⟩⟩
  clear h ht hgood hks hN hx hy hz
  go_enter Tryz.func10, Tryz.ntmps10
  go_wp2_with fail
  refine (kplayed_any _ xs w (unhide H) hlen (unhide Ht)).mono ?_
  rintro e w1 ⟨q, p, rfl, h1, hb1⟩
  rw [unhide Hks] at h1
  have H1 := hide h1
  have Hb1 := hide hb1
  clear h1 hb1
  go_wp2_with fail
  refine (unhide Hp1 _).mono ?_
  rintro e w2 ⟨rfl, hw2⟩
  rw [hw2]
  clear hw2 w2
  go_wp2_with fail
  refine (unhide Hp2 _).mono ?_
  rintro e w2 ⟨rfl, hw2⟩
  rw [hw2]
  clear hw2 w2
  go_wp2_with fail
  refine (unhide Hp3 _).mono ?_
  rintro e w2 ⟨rfl, hw2⟩
  rw [hw2]
  clear hw2 w2
  obtain ⟨y, hy⟩ : ∃ y, x + y1 = y := ⟨_, rfl⟩
  obtain ⟨z, hz⟩ : ∃ z, y + 1 + z1 = z := ⟨_, rfl⟩
  have hz' : x + y1 + 1 + z1 = z := by omega
  go_wp2_with fail
  try rw [hy]
  try rw [hz]
  have hxy : x ≤ y := by omega
  have hyz : y + 1 ≤ z := by omega
  have hz9 : z ≤ 999 := by omega
  have hx0 : 0 ≤ x := hxi.1
  clear hy hz hz' hxi hyi hzi Hp1 Hp2 Hp3
  refine (kperiod_any x y w1 hx0 (by omega) (by omega) (by omega) ((unhide Ht).below (unhide Hb1))).mono ?_
  rintro e w3 ⟨p1, rfl, hp1, hp1s, hb3⟩
  have Hq1 := hide hp1
  have Hb3 := hide hb3
  clear hp1 hb3
  have s1 : (p1 ++ ⟨#[44]⟩ : ByteArray).size ≤ 8 := by rw [ByteArray.size_append]; show p1.size + 1 ≤ 8; omega
  go_wp2_with fail
  refine (kperiod_any (y + 1) z w3 (by omega) (by omega) (by omega) hz9 ((unhide Ht).below ((unhide Hb1).then (unhide Hb3)))).mono ?_
  rintro e w4 ⟨p2, rfl, hp2, hp2s, hb4⟩
  have Hq2 := hide hp2
  have Hb4 := hide ((unhide Hb3).then hb4)
  clear hp2 hb4
  have s2 : (p1 ++ ⟨#[44]⟩ ++ p2 : ByteArray).size ≤ 15 := by rw [ByteArray.size_append]; omega
  have s3 : (p1 ++ ⟨#[44]⟩ ++ p2 ++ ⟨#[44]⟩ : ByteArray).size ≤ 16 := by rw [ByteArray.size_append]; show _ + 1 ≤ 16; omega
  go_wp2_with fail
  refine (kperiod_any x z w4 hx0 (by omega) (by omega) hz9 ((unhide Ht).below ((unhide Hb1).then (unhide Hb4)))).mono ?_
  rintro e w5 ⟨p3, rfl, hp3, hp3s, hb5⟩
  have Hq3 := hide hp3
  have Hb5 := hide ((unhide Hb4).then hb5)
  clear hp3 hb5
  obtain ⟨P, hP⟩ : ∃ P : ByteArray, p1 ++ ⟨#[44]⟩ ++ p2 ++ ⟨#[44]⟩ ++ p3 = P := ⟨_, rfl⟩
  have hPs : P.size ≤ 23 := by rw [← hP, ByteArray.size_append]; omega
  have HPL : Hid (L P = Lib.itoa x ++ 45 :: (Lib.itoa y ++ 44 :: (Lib.itoa (y + 1) ++ 45 :: (Lib.itoa z ++ 44 :: (Lib.itoa x ++ 45 :: Lib.itoa z))))) := by
    show _ = _
    rw [← hP]
    simp only [L_append, unhide Hq1, unhide Hq2, unhide Hq3]
    simp [L]
  go_wp2_with fail
  try rw [hP]
  clear hP s1 s2 s3 Hq1 Hq2 Hq3 hp1s hp2s hp3s
  go_loopg [16] N (fun mm vi wr => ∃ j : Nat, j ≤ N ∧ mm = N - j ∧ vi = .int .i64 j ∧ Hid (Below w5.heap.size w5 wr))
  case atStart => exact ⟨0, by omega, rfl, rfl, Below.refl _ _⟩
  case round =>
    obtain ⟨j, hj, rfl, rfl, Hb⟩ := hrel
    obtain ⟨wo, rfl⟩ : ∃ wo, wo = wr := ⟨_, rfl⟩
    have Hbo := hide ((unhide Hb5).then (unhide Hb))
    have HP := hide ((unhide H1).kept (unhide Hbo))
    have Hbw := hide ((unhide Hb1).then (unhide Hbo))
    have hpar := (unhide HP).rec'.par_at
    simp only at hpar
    rw [unhide HN] at hpar
    obtain ⟨gp, capp, c0, cpar⟩ := hpar
    clear cpar
    by_cases hlt : j < N
    · have Hrep := hide (fun (t : ByteArray) (ht : L t = joinT x y z (j : Int)) => join_rep (unhide Hgood) hx0 hxy hyz hz9 (by omega) (by rw [unhide HN]; omega) ht)
      have hja := acc_dec (n := (j : Int)) (by omega) (by omega)
      have Hjl := hide hja.2.1
      obtain ⟨a1, ha1⟩ : ∃ r, (tkT (wth s.acs (j : Int) 16) x y s.txs).1 = r := ⟨_, rfl⟩
      obtain ⟨a2, ha2⟩ : ∃ r, (tkT (wth s.acs (j : Int) 16) (y + 1) z s.txs).1 = r := ⟨_, rfl⟩
      obtain ⟨o1, ho1⟩ : ∃ r, (tkT (fun v => v == (j : Int)) x y s.txs).1 = r := ⟨_, rfl⟩
      obtain ⟨o2, ho2⟩ : ∃ r, (tkT (fun v => v == (j : Int)) (y + 1) z s.txs).1 = r := ⟨_, rfl⟩
      obtain ⟨n1, hn1⟩ : ∃ r, (tkT (wth s.acs (j : Int) 16) x y s.txs).2 = r := ⟨_, rfl⟩
      obtain ⟨n2, hn2⟩ : ∃ r, (tkT (wth s.acs (j : Int) 16) (y + 1) z s.txs).2 = r := ⟨_, rfl⟩
      have b1 := unhide HbA (wth s.acs (j : Int) 16) x y
      have b2 := unhide HbA (wth s.acs (j : Int) 16) (y + 1) z
      have b3 := (unhide HbA (fun v => v == (j : Int)) x y).1
      have b4 := (unhide HbA (fun v => v == (j : Int)) (y + 1) z).1
      rw [ha1, hn1] at b1
      rw [ha2, hn2] at b2
      rw [ho1] at b3
      rw [ho2] at b4
      rw [ha1, ha2, ho1, ho2, hn1, hn2] at Hrep
      obtain ⟨⟨b11, b12⟩, ⟨b13, b14⟩⟩ := b1
      obtain ⟨⟨b21, b22⟩, ⟨b23, b24⟩⟩ := b2
      obtain ⟨b31, b32⟩ := b3
      obtain ⟨b41, b42⟩ := b4
      have Hok : Hid (∀ row ∈ joinC a1 a2 o1 o2 n1 n2, row.length = 3 ∧ ∀ c ∈ row, CellN c) := by
        intro row hr
        unfold joinC at hr
        simp only [List.mem_cons, List.not_mem_nil, or_false] at hr
        rcases hr with rfl | rfl | rfl | rfl | rfl
        all_goals
          refine ⟨rfl, fun c hc => ?_⟩
          simp only [List.mem_cons, List.not_mem_nil, or_false] at hc
          rcases hc with rfl | rfl | rfl <;> exact ⟨rfl, by simp only; omega, by simp only; omega⟩
      have Hok2 := hide (rpt_len (cells := joinC a1 a2 o1 o2 n1 n2) (by simp [joinC]) (fun row hr => ⟨by rw [(unhide Hok row hr).1]; omega, (unhide Hok row hr).2⟩))
      clear hja ha1 ha2 ho1 ho2 hn1 hn2
      go_wp2_with fail
      refine (itoa_any (j : Int) wo (by omega) (by omega) ((unhide Ht).below (unhide Hbw))).mono ?_
      rintro e w6 ⟨n, rfl, hn, hb6⟩
      have hns : n.size ≤ 2 := by rw [size_L, hn]; exact unhide Hjl
      have Hn := hide hn
      have Hb6 := hide hb6
      clear hn hb6
      have s1 : (P ++ ⟨#[124, 64]⟩ : ByteArray).size ≤ 25 := by rw [ByteArray.size_append]; show P.size + 2 ≤ 25; omega
      have s2 : (P ++ ⟨#[124, 64]⟩ ++ n : ByteArray).size ≤ 27 := by rw [ByteArray.size_append]; omega
      have s3 : (P ++ ⟨#[124, 64]⟩ ++ n ++ ⟨#[59, 33]⟩ : ByteArray).size ≤ 29 := by rw [ByteArray.size_append]; show _ + 2 ≤ 29; omega
      have s4 : (P ++ ⟨#[124, 64]⟩ ++ n ++ ⟨#[59, 33]⟩ ++ n : ByteArray).size ≤ 31 := by rw [ByteArray.size_append]; omega
      have s5 : (P ++ ⟨#[124, 64]⟩ ++ n ++ ⟨#[59, 33]⟩ ++ n ++ ⟨#[59, 35]⟩ : ByteArray).size ≤ 33 := by rw [ByteArray.size_append]; show _ + 2 ≤ 33; omega
      have s6 : (P ++ ⟨#[124, 64]⟩ ++ n ++ ⟨#[59, 33]⟩ ++ n ++ ⟨#[59, 35]⟩ ++ n : ByteArray).size ≤ 35 := by rw [ByteArray.size_append]; omega
      have s7 : (P ++ ⟨#[124, 64]⟩ ++ n ++ ⟨#[59, 33]⟩ ++ n ++ ⟨#[59, 35]⟩ ++ n ++ ⟨#[59, 36, 49, 59, 60, 48]⟩ : ByteArray).size ≤ 41 := by rw [ByteArray.size_append]; show _ + 6 ≤ 41; omega
      have hLt : L (P ++ ⟨#[124, 64]⟩ ++ n ++ ⟨#[59, 33]⟩ ++ n ++ ⟨#[59, 35]⟩ ++ n ++ ⟨#[59, 36, 49, 59, 60, 48]⟩ : ByteArray) = joinT x y z (j : Int) := by
        simp only [L_append, unhide HPL, unhide Hn]
        unfold joinT
        simp [L]
      have HLt := hide hLt
      clear hLt
      go_wp2_with fail
      have Hb6' := hide ((unhide Hbw).then (unhide Hb6))
      refine (grid_any w.heap.size p s _ (joinC a1 a2 o1 o2 n1 n2) 5 3 w6 ((unhide HP).kept (unhide Hb6)).led.led (by unfold maxLen; omega) ((unhide Ht).below (unhide Hb6')) (unhide Hrep _ (unhide HLt)) (unhide Hok2) rfl (by omega) (by omega) (by omega) (by omega) (unhide Hok)).mono ?_
      rintro e w7 ⟨vg, rfl, hgr, hb7⟩
      obtain ⟨g, capg, g0, e0, g1, e1, g2, e2, g3, e3, g4, e4, rfl, f0, f1, f2, f3, f4, ⟨r00, r01, r02⟩, ⟨r10, r11, r12⟩, ⟨r20, r21, r22⟩, ⟨r30, r31, r32⟩, ⟨r40, r41, r42⟩⟩ := hgr.fifteen
      have Hb7 := hide (((unhide Hb).then (unhide Hb6)).then hb7)
      clear hgr hb7 s1 s2 s3 s4 s5 s6 s7 HLt Hrep Hok Hok2
      go_wp2_with fail
      go_loopg [20] 3 (fun mm vi wr => ∃ (i k : Nat), i ≤ 3 ∧ mm = 3 - i ∧ vi = .int .i64 i ∧ wr = w7.drewN k)
      case atStart => exact ⟨0, 0, by omega, rfl, rfl, rfl⟩
      case round =>
        obtain ⟨i, k, hi3, rfl, rfl, hwr⟩ := hrel
        rw [hwr]
        clear hwr
        have t1 : (o1 != o1) = false := by simp
        have t2 : (o2 != o2) = false := by simp
        have t3 : ((o1 + o2) != (o1 + o2)) = false := by simp
        have t4 : ((a1 + a2) != (a1 + a2)) = false := by simp
        have t5 : ((n1 + n2) != (n1 + n2)) = false := by simp
        have t6 : (a1 != a1) = false := by simp
        have t7 : (a2 != a2) = false := by simp
        rcases i with _ | _ | _ | i
        · go_upto_region 18 with fail
          go_quiet (fail)
          go_wp2_with fail
          go_roundg (3 - (0 + 1))
          case measure => omega
          case rel => exact ⟨0 + 1, _, by omega, rfl, by go_num, by first | rfl | exact (World.drewN_drewN _ _ _)⟩
        · go_upto_region 18 with fail
          go_quiet (fail)
          go_wp2_with fail
          go_roundg (3 - (0 + 1 + 1))
          case measure => omega
          case rel => exact ⟨0 + 1 + 1, _, by omega, rfl, by go_num, by first | rfl | exact (World.drewN_drewN _ _ _)⟩
        · go_upto_region 18 with fail
          go_quiet (fail)
          go_wp2_with fail
          go_roundg (3 - (0 + 1 + 1 + 1))
          case measure => omega
          case rel => exact ⟨0 + 1 + 1 + 1, _, by omega, rfl, by go_num, by first | rfl | exact (World.drewN_drewN _ _ _)⟩
        · obtain rfl : i = 0 := by omega
          go_upto_region 20 with fail
          go_quiet (fail)
          go_wp2_with fail
          go_roundg (N - (j + 1))
          case measure => omega
          case rel => exact ⟨j + 1, by omega, rfl, by go_num, by have hb := unhide Hb7; exact ⟨hb.os, hb.tape, hb.output, hb.size, hb.block⟩⟩
    · obtain rfl : j = N := by omega
      go_wp2_with fail
      go_ret
      exact ⟨rfl, unhide Hbw⟩

end Go.Proofs.YtdchbenfccofpaaGreatDoor
