/- Walks of the books: the program's looks at lines, on. -/
import Derived.Test.YtpcdkhmahbecaaaGreatDoorBkG
namespace Go.Proofs.YtpcdkhmahbecaaaGreatDoor
open Go.RowKit Db

set_option maxRecDepth 100000 in
set_option maxHeartbeats 2000000 in
theorem hasClosed_any (B p : Nat) (s : Bk) (v : Value) (ls : List Ln) (w : World) (hs : Led w B p s) (h : LinesAt w v ls) (h4 : ls.length ≤ 4) (hacc : ls.all (accB s) = true) :
    Calls Tryz.prog 136 #[.pointer (some ⟨p, 0, none⟩), v] w fun e w' => e = .returned (.bool (ls.any fun l => clsd s l.1)) ∧ Below w.heap.size w w' := by
  obtain ⟨va, vt, tv, hs⟩ := hs
  obtain ⟨g, capa, rfl, hg, hg'⟩ := ownsRow_some hs.acs hs.good.one
  have hfew := hs.good.few
  obtain ⟨ao, cap, rfl⟩ := h.form
  have H := hide h
  have HS := hide hs
  have Hacc := hide hacc
  clear h hs hacc
  go_enter Tryz.func136, Tryz.ntmps136
  go_wp2_with fail
  go_loopg [10] ls.length (fun m i wr => ∃ j : Nat, j ≤ ls.length ∧ m = ls.length - j ∧ i = .int .i64 j ∧ Hid (((ls.drop j).any fun l => clsd s l.1) = ls.any fun l => clsd s l.1) ∧ Hid (Below w.heap.size w wr))
  case atStart => exact ⟨0, by omega, rfl, rfl, rfl, Below.refl _ _⟩
  case round =>
    obtain ⟨j, hj, rfl, rfl, Ho, Hb⟩ := hrel
    have hsz := (unhide Hb).size
    have HS1 := hide ((unhide HS).kept (unhide Hb))
    have c0 := (unhide HS1).blk.cell 0
    have hlb := (unhide HS1).blk.lt
    simp only [List.getElem?_toArray, List.getElem?_cons_zero] at c0
    by_cases hlt : j < ls.length
    · obtain ⟨⟨la, lm⟩, hl⟩ : ∃ l, ls[j]? = some l := ⟨ls[j], List.getElem?_eq_getElem hlt⟩
      obtain ⟨_, b, off, rfl, hbl, d1, d2⟩ := ((unhide H).kept (unhide Hb)).line hl
      have Hst := hide (any_step (f := fun l : Ln => clsd s l.1) hl)
      have hla := List.all_eq_true.1 (unhide Hacc) _ (List.mem_of_getElem? hl)
      unfold accB ther at hla
      simp only [Bool.and_eq_true, decide_eq_true_eq] at hla
      obtain ⟨k, rfl⟩ : ∃ k : Nat, la = k := ⟨la.toNat, by omega⟩
      have hk : k < s.acs.length := by omega
      obtain ⟨c, hc⟩ := acs_get hk
      have d3 := ownsRow_cell (unhide HS1).acs (j := k * 2 + 1) (two_get (fun a : Ac => Value.int .i64 a.1) (fun a => .bool a.2) s.acs k c hc).2
      have hcl := clsd_at hc
      have hgl : g < wr.heap.size := by omega
      simp only at d1 d2 Hst
      rw [hcl] at Hst
      clear hl hla hc hcl
      cases hcc : c.2 with
      | true =>
        rw [hcc] at d3 Hst
        go_wp2_with fail
        go_ret
        exact ⟨retB' (by rw [← unhide Ho, unhide Hst]; simp), (unhide Hb).alloc hsz _⟩
      | false =>
        rw [hcc] at d3 Hst
        go_wp2_with fail
        go_roundg (ls.length - (j + 1))
        case measure => omega
        case rel => exact ⟨j + 1, by omega, rfl, by go_num, by show _ = _; rw [← unhide Ho, unhide Hst]; simp, (unhide Hb).alloc hsz _⟩
    · obtain rfl : j = ls.length := by omega
      go_wp2_with fail
      go_ret
      exact ⟨retB' (by rw [← unhide Ho, List.drop_length]; rfl), unhide Hb⟩

theorem lnsE_15 {s : Bk} {ls : List Ln} (h : ls.length < 2 ∨ 4 < ls.length) : lnsE s ls = 15 := by unfold lnsE; rw [if_pos h]
theorem lnsE_16 {s : Bk} {ls : List Ln} (h : ¬ (ls.length < 2 ∨ 4 < ls.length)) (h1 : ls.any amtB = true) : lnsE s ls = 16 := by unfold lnsE; rw [if_neg h, if_pos h1]
theorem lnsE_7 {s : Bk} {ls : List Ln} (h : ¬ (ls.length < 2 ∨ 4 < ls.length)) (h1 : ls.any amtB = false) (h2 : ls.all (accB s) = false) : lnsE s ls = 7 := by unfold lnsE; rw [if_neg h, if_neg (by simp [h1]), if_pos h2]
theorem lnsE_8 {s : Bk} {ls : List Ln} (h : ¬ (ls.length < 2 ∨ 4 < ls.length)) (h1 : ls.any amtB = false) (h2 : ls.all (accB s) = true) (h3 : (ls.any fun l => clsd s l.1) = true) : lnsE s ls = 8 := by unfold lnsE; rw [if_neg h, if_neg (by simp [h1]), if_neg (by simp [h2]), if_pos h3]
theorem lnsE_17 {s : Bk} {ls : List Ln} (h : ¬ (ls.length < 2 ∨ 4 < ls.length)) (h1 : ls.any amtB = false) (h2 : ls.all (accB s) = true) (h3 : (ls.any fun l => clsd s l.1) = false) (h4 : ¬ sumL ls = 0) : lnsE s ls = 17 := by unfold lnsE; rw [if_neg h, if_neg (by simp [h1]), if_neg (by simp [h2]), if_neg (by simp [h3]), if_pos h4]
theorem lnsE_0 {s : Bk} {ls : List Ln} (h : ¬ (ls.length < 2 ∨ 4 < ls.length)) (h1 : ls.any amtB = false) (h2 : ls.all (accB s) = true) (h3 : (ls.any fun l => clsd s l.1) = false) (h4 : sumL ls = 0) : lnsE s ls = 0 := by unfold lnsE; rw [if_neg h, if_neg (by simp [h1]), if_neg (by simp [h2]), if_neg (by simp [h3]), if_neg (by simp [h4])]
theorem amt_ok {ls : List Ln} (h : ls.any amtB = false) : ∀ l ∈ ls, -1000000000000 ≤ l.2 ∧ l.2 ≤ 1000000000000 := by
  intro l hl
  have a : amtB l = false := by simpa using List.any_eq_false.1 h l hl
  unfold amtB at a
  simp only [Bool.or_eq_false_iff, decide_eq_false_iff_not] at a
  omega

set_option maxRecDepth 100000 in
set_option maxHeartbeats 2000000 in
theorem checkLines_any (B p : Nat) (s : Bk) (v : Value) (ls : List Ln) (w : World) (hs : Led w B p s) (h : LinesAt w v ls) :
    Calls Tryz.prog 119 #[.pointer (some ⟨p, 0, none⟩), v] w fun e w' => e = .returned (.int .i64 (lnsE s ls)) ∧ Below w.heap.size w w' := by
  obtain ⟨va, vt, tv, hs⟩ := hs
  have H := hide h
  have HS := hide hs
  obtain ⟨ao, cap, rfl⟩ := h.form
  clear h hs
  by_cases hlen : ls.length < 2 ∨ 4 < ls.length
  · rw [lnsE_15 hlen]
    by_cases h2 : ls.length < 2
    · have hd : decide ((ls.length : Int) < 2) = true := by simp; omega
      go_enter Tryz.func119, Tryz.ntmps119
      go_wp2_with fail
      go_ret
      exact ⟨rfl, Below.refl _ _⟩
    · have hd : decide ((ls.length : Int) < 2) = false := by simp; omega
      have hd2 : decide ((4 : Int) < (ls.length : Int)) = true := by simp; omega
      go_enter Tryz.func119, Tryz.ntmps119
      go_wp2_with fail
      go_ret
      exact ⟨rfl, Below.refl _ _⟩
  · have hd : decide ((ls.length : Int) < 2) = false := by simp; omega
    have hd2 : decide ((4 : Int) < (ls.length : Int)) = false := by simp; omega
    have h4 : ls.length ≤ 4 := by omega
    have Hm := hide (amounts_any _ ls w (unhide H) h4)
    cases ham : ls.any amtB with
    | true =>
      rw [lnsE_16 hlen ham]
      rw [ham] at Hm
      clear ham
      go_enter Tryz.func119, Tryz.ntmps119
      go_wp2_with fail
      refine (unhide Hm).mono ?_
      rintro e w1 ⟨rfl, hb1⟩
      have Hb1 := hide hb1
      clear hb1
      go_wp2_with fail
      go_ret
      exact ⟨rfl, unhide Hb1⟩
    | false =>
      rw [ham] at Hm
      have Ham := hide ham
      have Hc := hide (fun (wx : World) (hb : Below w.heap.size w wx) => hasAccounts_any B p s _ ls wx ⟨_, _, _, (unhide HS).kept hb⟩ ((unhide H).kept hb) h4)
      cases hac : ls.all (accB s) with
      | false =>
        rw [lnsE_7 hlen ham hac]
        rw [hac] at Hc
        clear hac ham
        go_enter Tryz.func119, Tryz.ntmps119
        go_wp2_with fail
        refine (unhide Hm).mono ?_
        rintro e w1 ⟨rfl, hb1⟩
        have Hb1 := hide hb1
        clear hb1
        go_wp2_with fail
        refine (unhide Hc _ (unhide Hb1)).mono ?_
        rintro e w2 ⟨rfl, hb2⟩
        have Hb2 := hide ((unhide Hb1).then hb2)
        clear hb2
        go_wp2_with fail
        go_ret
        exact ⟨rfl, unhide Hb2⟩
      | true =>
        rw [hac] at Hc
        have Hac := hide hac
        have Hd := hide (fun (wx : World) (hb : Below w.heap.size w wx) => hasClosed_any B p s _ ls wx ⟨_, _, _, (unhide HS).kept hb⟩ ((unhide H).kept hb) h4 (unhide Hac))
        cases hcl : (ls.any fun l => clsd s l.1) with
        | true =>
          rw [lnsE_8 hlen ham hac hcl]
          rw [hcl] at Hd
          clear hac ham hcl
          go_enter Tryz.func119, Tryz.ntmps119
          go_wp2_with fail
          refine (unhide Hm).mono ?_
          rintro e w1 ⟨rfl, hb1⟩
          have Hb1 := hide hb1
          clear hb1
          go_wp2_with fail
          refine (unhide Hc _ (unhide Hb1)).mono ?_
          rintro e w2 ⟨rfl, hb2⟩
          have Hb2 := hide ((unhide Hb1).then hb2)
          clear hb2
          go_wp2_with fail
          refine (unhide Hd _ (unhide Hb2)).mono ?_
          rintro e w3 ⟨rfl, hb3⟩
          have Hb3 := hide ((unhide Hb2).then hb3)
          clear hb3
          go_wp2_with fail
          go_ret
          exact ⟨rfl, unhide Hb3⟩
        | false =>
          rw [hcl] at Hd
          have Ht := hide (fun (wx : World) (hb : Below w.heap.size w wx) => total_any _ ls wx ((unhide H).kept hb) h4 (amt_ok (unhide Ham)))
          by_cases hsum : sumL ls = 0
          · rw [lnsE_0 hlen ham hac hcl hsum]
            rw [hsum] at Ht
            clear hac ham hcl hsum
            go_enter Tryz.func119, Tryz.ntmps119
            go_wp2_with fail
            refine (unhide Hm).mono ?_
            rintro e w1 ⟨rfl, hb1⟩
            have Hb1 := hide hb1
            clear hb1
            go_wp2_with fail
            refine (unhide Hc _ (unhide Hb1)).mono ?_
            rintro e w2 ⟨rfl, hb2⟩
            have Hb2 := hide ((unhide Hb1).then hb2)
            clear hb2
            go_wp2_with fail
            refine (unhide Hd _ (unhide Hb2)).mono ?_
            rintro e w3 ⟨rfl, hb3⟩
            have Hb3 := hide ((unhide Hb2).then hb3)
            clear hb3
            go_wp2_with fail
            refine (unhide Ht _ (unhide Hb3)).mono ?_
            rintro e w4 ⟨rfl, hb4⟩
            have Hb4 := hide ((unhide Hb3).then hb4)
            clear hb4
            go_wp2_with fail
            go_ret
            exact ⟨rfl, unhide Hb4⟩
          · rw [lnsE_17 hlen ham hac hcl hsum]
            obtain ⟨x, hx⟩ : ∃ x, sumL ls = x := ⟨_, rfl⟩
            rw [hx] at Ht hsum
            have hxe : (x == 0) = false := by simpa using hsum
            clear hac ham hcl hx
            go_enter Tryz.func119, Tryz.ntmps119
            go_wp2_with fail
            refine (unhide Hm).mono ?_
            rintro e w1 ⟨rfl, hb1⟩
            have Hb1 := hide hb1
            clear hb1
            go_wp2_with fail
            refine (unhide Hc _ (unhide Hb1)).mono ?_
            rintro e w2 ⟨rfl, hb2⟩
            have Hb2 := hide ((unhide Hb1).then hb2)
            clear hb2
            go_wp2_with fail
            refine (unhide Hd _ (unhide Hb2)).mono ?_
            rintro e w3 ⟨rfl, hb3⟩
            have Hb3 := hide ((unhide Hb2).then hb3)
            clear hb3
            go_wp2_with fail
            refine (unhide Ht _ (unhide Hb3)).mono ?_
            rintro e w4 ⟨rfl, hb4⟩
            have Hb4 := hide ((unhide Hb3).then hb4)
            clear hb4
            go_wp2_with fail
            go_ret
            exact ⟨rfl, unhide Hb4⟩

end Go.Proofs.YtpcdkhmahbecaaaGreatDoor
