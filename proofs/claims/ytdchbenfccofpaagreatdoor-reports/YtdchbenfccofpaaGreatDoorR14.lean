/- The law's pair of books: reported; every Report, whatever was done to the book. -/
import Derived.Test.YtdchbenfccofpaaGreatDoorR06
import Derived.Test.YtdchbenfccofpaaGreatDoorR13
namespace Go.Proofs.YtdchbenfccofpaaGreatDoor
open Go.RowKit Db

set_option maxRecDepth 100000 in
set_option maxHeartbeats 4000000 in
theorem reported_any (B q p c : Nat) (s : Bk) (kd bk a b : Int) (ao : Option Addr) (n cap : Nat) (t : ByteArray) (w : World) (h : PairAt w B q p c s) (hm : t.size ≤ maxLen) (ht : Tab w) :
    Calls Tryz.prog 84 #[.pointer (some ⟨q, 0, none⟩), .agg #[.int .i64 kd, .int .i64 bk, .int .i64 a, .int .i64 b, .slice ao n cap, .string t]] w fun e w' => e = .returned (.bool true) ∧ Below w.heap.size w w' := by
  obtain ⟨bx, hbx⟩ : ∃ bx, w.heap.size = bx := ⟨_, rfl⟩
  obtain ⟨W, hW⟩ : ∃ W, w.alloc (.cells #[.int .i64 kd, .int .i64 bk, .int .i64 a, .int .i64 b, .slice ao n cap, .string t] 33) = W := ⟨_, rfl⟩
  have HX : Hid (Blk W bx #[.int .i64 kd, .int .i64 bk, .int .i64 a, .int .i64 b, .slice ao n cap, .string t] 33) := by rw [← hW, ← hbx]; exact Blk.new _ _ _
  have Hb0 : Hid (Below w.heap.size w W) := by rw [← hW]; exact (Below.refl _ _).alloc (Nat.le_refl _) _
  have H0 := hide (h.kept (unhide Hb0))
  have hWs : w.heap.size ≤ W.heap.size := (unhide Hb0).size
  have Hop := hide (fun (wx : World) (hb : Below w.heap.size w wx) => dayReport_any B p s t wx (h.led.kept hb) hm (ht.below hb))
  have Hor := hide (fun (wx : World) (u : ByteArray) (er : Int) (hb : Below w.heap.size w wx) (hc : RepIs s t u er) => refReport_any B c s t u wx (h.rfd.kept hb) hm er hc)
  have c0 := (unhide H0).blk.cell 0
  have x5 := (unhide HX).cell 5
  simp only [List.getElem?_toArray, List.getElem?_cons_zero, List.getElem?_cons_succ] at c0 x5
  clear h
  go_enter Tryz.func84, Tryz.ntmps84
  go_upto_region 1 with fail
  try rw [hW]
  try rw [hbx]
  have Hbx := hide hbx
  clear hW hbx
  go_region_held3 (fun w' => w'.cell? ⟨q, 0, none⟩ = some (.pointer (some ⟨p, 0, none⟩)) ∧ w'.cell? ⟨bx, 5, none⟩ = some (.string t)) (first | go_keep | exact ⟨kept_cell' hb4 (by simp [*]), kept_cell' hb4 (by simp [*])⟩) (first | (go_at_call 27; refine (unhide Hop _ (by exact (unhide Hb0).drew)).mono ?_; rintro e w4 ⟨u, er, rfl, hu, hb4⟩))
  have Hu := hide hu
  have hb4u := hb4.undrew
  have Hb4 := hide ((unhide Hb0).then' hWs hb4u)
  have k1 := ((unhide H0).kept hb4u).blk.cell 1
  have k5 := ((unhide HX).kept hb4u).cell 5
  simp only [List.getElem?_toArray, List.getElem?_cons_zero, List.getElem?_cons_succ] at k1 k5
  have hs4 : w.heap.size ≤ w4.heap.size := (unhide Hb4).size
  clear hu hb4 hb4u c0 x5
  go_upto_region 2 with fail
  go_region_held3 (fun w' => w'.cell? ⟨q, 1, none⟩ = some (.pointer (some ⟨c, 0, none⟩)) ∧ w'.cell? ⟨bx, 5, none⟩ = some (.string t)) (first | go_keep | exact ⟨kept_cell' hb5 (by simp [*]), kept_cell' hb5 (by simp [*])⟩) (first | (go_at_call 124; refine (unhide Hor _ u er (by exact (unhide Hb4).drew) (unhide Hu)).mono ?_; rintro e w5 ⟨rfl, hb5⟩))
  have Hb5 := hide ((unhide Hb4).then' hs4 hb5.undrew)
  have e1 : (er == er) = true := by simp
  clear hb5
  go_wp2_with fail
  go_ret
  exact ⟨rfl, unhide Hb5⟩

set_option maxRecDepth 100000 in
set_option maxHeartbeats 4000000 in
theorem doR_any (B q p c : Nat) (s : Bk) (x : ActV) (w : World) (h : PairAt w B q p c s) (hx : ActOk w B x) (hd : x.kd = 4) (ht : Tab w) :
    Calls Tryz.prog 47 #[.pointer (some ⟨q, 0, none⟩), x.val] w fun e w' => e = .returned (.bool true) ∧ PairAt w' B q p c s ∧ Below w.heap.size w w' := by
  obtain ⟨kd, bk, a, b, ao, cap, ls, t⟩ := x
  obtain ⟨_, _, _, hm⟩ := hx
  simp only at hm hd
  subst hd
  unfold ActV.val
  simp only
  obtain ⟨W, hW⟩ : ∃ W, w.alloc (.cells #[.int .i64 4, .int .i64 bk, .int .i64 a, .int .i64 b, .slice ao ls.length cap, .string t] 33) = W := ⟨_, rfl⟩
  have HX : Hid (Blk W w.heap.size #[.int .i64 4, .int .i64 bk, .int .i64 a, .int .i64 b, .slice ao ls.length cap, .string t] 33) := by rw [← hW]; exact Blk.new _ _ _
  have Hb0 : Hid (Below w.heap.size w W) := by rw [← hW]; exact (Below.refl _ _).alloc (Nat.le_refl _) _
  have H0 := hide (h.kept (unhide Hb0))
  have hWs : w.heap.size ≤ W.heap.size := (unhide Hb0).size
  have x0 := (unhide HX).cell 0
  have x1 := (unhide HX).cell 1
  have x2 := (unhide HX).cell 2
  have x3 := (unhide HX).cell 3
  have x4 := (unhide HX).cell 4
  have x5 := (unhide HX).cell 5
  simp only [List.getElem?_toArray, List.getElem?_cons_zero, List.getElem?_cons_succ] at x0 x1 x2 x3 x4 x5
  have Hc := hide (reported_any B q p c s 4 bk a b ao ls.length cap t W (unhide H0) hm (ht.below (unhide Hb0)))
  clear h ht
  go_enter Tryz.func47, Tryz.ntmps47
  go_wp2_with fail
  try rw [hW]
  refine (unhide Hc).mono ?_
  rintro e w1 ⟨rfl, hb1⟩
  have H1 := hide ((unhide H0).kept hb1)
  have Hb1 := hide ((unhide Hb0).then' hWs hb1)
  clear hb1
  go_wp2_with fail
  go_ret
  exact ⟨rfl, unhide H1, unhide Hb1⟩

set_option maxRecDepth 100000 in
set_option maxHeartbeats 4000000 in
theorem playedR_any (v : Value) (xs : List ActV) (w : World) (h : ActsAt w w.heap.size v xs) (hlen : xs.length ≤ 9223372036854775800) (ht : Tab w) :
    Calls Tryz.prog 17 #[v, .int .i64 4, .int .i64 4] w fun e w' => ∃ q p c, e = .returned (.pointer (some ⟨q, 0, none⟩)) ∧ PairAt w' w.heap.size q p c (run bk0 xs) ∧ Below w.heap.size w w' := by
  obtain ⟨ao, cap, rfl⟩ : ∃ ao cap, v = .slice ao xs.length cap := by obtain ⟨⟨ao, cap, rfl, _⟩, _⟩ := h; exact ⟨ao, cap, rfl⟩
  have H := hide h
  have Ht := hide ht
  clear h ht
  go_enter Tryz.func17, Tryz.ntmps17
  go_wp2_with fail
  refine (begun_any _).mono ?_
  rintro e w1 ⟨q, p, c, rfl, h1, hb1⟩
  have H1 := hide h1
  have Hb1 := hide hb1
  clear h1 hb1
  go_wp2_with fail
  go_loopg [8] xs.length (fun m i wr => ∃ j : Nat, j ≤ xs.length ∧ m = xs.length - j ∧ i = .int .i64 j ∧ Hid (PairAt wr w.heap.size q p c (run bk0 (xs.take j))) ∧ Hid (Below w.heap.size w wr))
  case atStart => exact ⟨0, by omega, rfl, rfl, unhide H1, unhide Hb1⟩
  case round =>
    obtain ⟨j, hj, rfl, rfl, HP, Hb⟩ := hrel
    by_cases hlt : j < xs.length
    · obtain ⟨x, hx⟩ : ∃ x, xs[j]? = some x := ⟨xs[j], List.getElem?_eq_getElem hlt⟩
      have hat := (unhide H).below (unhide Hb)
      have Hst := hide (run_step (s := bk0) hx)
      have Hok := hide (hat.oks x (List.mem_of_getElem? hx))
      obtain ⟨⟨ao', cap', e1, hr⟩, _⟩ := hat
      simp only [Value.slice.injEq, true_and] at e1
      obtain ⟨rfl, rfl⟩ := e1
      have hr2 := hr.resolve_left (by rintro rfl; simp at hx)
      obtain ⟨b, off, rfl, hbl, hc⟩ := hr2
      have hcx := hc j x hx
      obtain ⟨d0, d1, d2, d3, d4, d5⟩ := hcx
      have Hval : Hid (x.val = .agg #[.int .i64 x.kd, .int .i64 x.bk, .int .i64 x.a, .int .i64 x.b, .slice x.ao x.ls.length x.cap, .string x.t]) := rfl
      have hjj : (j : Int) < (xs.length : Int) := by omega
      clear hr hc hx
      cases hd : does x.kd with
      | false =>
        have hd' := hd
        unfold does at hd'
        simp only [Bool.or_eq_false_iff] at hd'
        obtain ⟨⟨h1, h2⟩, h3⟩ := hd'
        have Hst2 : Hid (run bk0 (xs.take (j + 1)) = run bk0 (xs.take j)) := by
          show _ = _
          have := unhide Hst
          rw [hd] at this
          simpa using this
        by_cases h4 : x.kd = 4
        · have Hdo := hide (doR_any w.heap.size q p c (run bk0 (xs.take j)) x wr (unhide HP) (unhide Hok) h4 ((unhide Ht).below (unhide Hb)))
          rw [unhide Hval] at Hdo
          have hsz := (unhide Hb).size
          rw [h4] at d0 Hdo
          clear hd Hst h1 h2 h3 h4
          go_wp2_with fail
          refine (unhide Hdo).mono ?_
          rintro e w2 ⟨rfl, h1, h2⟩
          have HP2 : Hid (PairAt w2 w.heap.size q p c (run bk0 (xs.take (j + 1)))) := by show PairAt _ _ _ _ _ _; rw [unhide Hst2]; exact h1
          have Hb2 : Hid (Below w.heap.size w w2) := (unhide Hb).then' hsz h2
          clear h1 h2
          go_wp2_with fail
          go_roundg (xs.length - (j + 1))
          case measure => omega
          case rel => exact ⟨j + 1, by omega, rfl, by go_num, unhide HP2, unhide Hb2⟩
        · have HP2 : Hid (PairAt wr w.heap.size q p c (run bk0 (xs.take (j + 1)))) := by
            show PairAt _ _ _ _ _ _
            rw [unhide Hst2]
            exact unhide HP
          obtain ⟨kd, hkd⟩ : ∃ kd, x.kd = kd := ⟨_, rfl⟩
          rw [hkd] at d0 h1 h2 h3 h4
          have hna : (kd != 4) = true := by simp [bne, h4]
          have hnb : (kd == 4) = false := by simpa using h4
          clear hd hkd Hst
          go_wp2_with fail
          go_roundg (xs.length - (j + 1))
          case measure => omega
          case rel => exact ⟨j + 1, by omega, rfl, by go_num, unhide HP2, unhide Hb⟩
      | true =>
        have Hdo := hide (do_any w.heap.size q p c (run bk0 (xs.take j)) x wr (unhide HP) (unhide Hok) hd)
        have Hst2 : Hid (run bk0 (xs.take (j + 1)) = stp (run bk0 (xs.take j)) x) := by
          show _ = _
          have := unhide Hst
          rw [hd] at this
          simpa using this
        have h3 : x.kd = 1 ∨ x.kd = 2 ∨ x.kd = 3 := by
          unfold does at hd
          simp only [Bool.or_eq_true, beq_iff_eq] at hd
          omega
        rw [unhide Hval] at Hdo
        have hsz := (unhide Hb).size
        clear hd Hst
        obtain ⟨kd, hkd⟩ : ∃ kd, x.kd = kd := ⟨_, rfl⟩
        rw [hkd] at d0 h3 Hdo
        clear hkd
        rcases h3 with rfl | rfl | rfl
        all_goals
          go_wp2_with fail
          refine (unhide Hdo).mono ?_
          rintro e w2 ⟨rfl, h1, h2⟩
          have HP2 : Hid (PairAt w2 w.heap.size q p c (run bk0 (xs.take (j + 1)))) := by show PairAt _ _ _ _ _ _; rw [unhide Hst2]; exact h1
          have Hb2 : Hid (Below w.heap.size w w2) := (unhide Hb).trans (h2.below hsz)
          clear h1 h2
          go_wp2_with fail
          go_roundg (xs.length - (j + 1))
          case measure => omega
          case rel => exact ⟨j + 1, by omega, rfl, by go_num, unhide HP2, unhide Hb2⟩
    · obtain rfl : j = xs.length := by omega
      have HP2 : Hid (PairAt wr w.heap.size q p c (run bk0 xs)) := by have := unhide HP; rw [List.take_length] at this; exact this
      go_wp2_with fail
      go_ret
      exact ⟨q, p, c, rfl, unhide HP2, unhide Hb⟩


set_option maxRecDepth 100000 in
set_option maxHeartbeats 4000000 in
theorem reports_walk (v : Value) (xs : List ActV) (w : World) (h : ActsAt w w.heap.size v xs) (hlen : xs.length ≤ 9223372036854775800) (ht : Tab w) :
    Calls Tryz.prog 6 #[v] w fun e w' => e = .returned (.bool true) ∧ Below w.heap.size w w' := by
  obtain ⟨ao, cap, rfl⟩ : ∃ ao cap, v = .slice ao xs.length cap := by obtain ⟨⟨ao, cap, rfl, _⟩, _⟩ := h; exact ⟨ao, cap, rfl⟩
  have H := hide h
  have Ht := hide ht
  clear h ht
  go_enter Tryz.func6, Tryz.ntmps6
  go_wp2_with fail
  refine (playedR_any _ xs _ (unhide H) hlen (unhide Ht)).mono ?_
  rintro e w1 ⟨q, p, c, rfl, h1, hb1⟩
  have Hb1 := hide hb1
  clear h1 hb1
  go_wp2_with fail
  go_ret
  exact ⟨rfl, unhide Hb1⟩

end Go.Proofs.YtdchbenfccofpaaGreatDoor
