/- Walks of the books: Accounts. -/
import Derived.Test.YtpcdkhmahbecaaaGreatDoorBkO
import Derived.Test.YtpcdkhmahbecaaaGreatDoorNum
import Derived.Test.YtpcdkhmahbecaaaGreatDoorJn
namespace Go.Proofs.YtpcdkhmahbecaaaGreatDoor
open Go.RowKit Db

def acT (c : Ac) : List UInt8 := Lib.itoa c.1 ++ (if c.2 then [120] else [])
def accL (s : Bk) : List (List UInt8) := (s.acs.drop 1).map acT
def accT (s : Bk) : List UInt8 := jn 44 (accL s)
theorem accL_get {s : Bk} {j : Nat} {c : Ac} (h : s.acs[j + 1]? = some c) : (accL s)[j]? = some (acT c) := by
  unfold accL; rw [List.getElem?_map, List.getElem?_drop, Nat.add_comm 1 j, h]; rfl
theorem accL_all {s : Bk} {u : List UInt8} (h : u = jn 44 ((accL s).take (s.acs.length - 1))) : u = accT s := by
  rw [h, List.take_of_length_le (by unfold accL; simp)]; rfl
theorem acT_size {c : Ac} (h : -1 ≤ c.1 ∧ c.1 ≤ 16) {u : ByteArray} (hu : L u = Lib.itoa c.1) : u.size ≤ 21 := itoa_size (by omega) (by omega) hu

/-- One account more. -/
theorem acc_step {s : Bk} {j : Nat} {c : Ac} (h : s.acs[j + 1]? = some c) {u t : List UInt8} (hu : u = jn 44 ((accL s).take j)) (ht : t = Lib.itoa c.1) :
    (j = 0 → u ++ t ++ (if c.2 then [120] else []) = jn 44 ((accL s).take (j + 1))) ∧ (0 < j → u ++ [44] ++ t ++ (if c.2 then [120] else []) = jn 44 ((accL s).take (j + 1))) := by
  have hm := accL_get h
  constructor
  · rintro rfl
    rw [jn_one hm, hu, ht]; simp [jn, acT]
  · intro hj
    rw [jn_more hj hm, hu, ht]; simp [acT]

set_option maxRecDepth 100000 in
set_option maxHeartbeats 4000000 in
theorem ledAccounts_any (B p : Nat) (s : Bk) (w : World) (h : Led w B p s) (ht : Tab w) :
    Calls Tryz.prog 23 #[.pointer (some ⟨p, 0, none⟩)] w fun e w' => ∃ u : ByteArray, e = .returned (.string u) ∧ L u = accT s ∧ Below w.heap.size w w' := by
  obtain ⟨va, vt, tv, h⟩ := h
  obtain ⟨g, cap, rfl, hg, hg'⟩ := ownsRow_some h.acs h.good.one
  have c0 := h.blk.cell 0
  simp only [List.getElem?_toArray, List.getElem?_cons_zero] at c0
  have hfew := h.good.few
  have hone := h.good.one
  have H := hide h
  have Ht := hide ht
  clear h ht
  go_enter Tryz.func23, Tryz.ntmps23
  go_wp2_with fail
  go_loopg [3, 11] s.acs.length (fun m vu i wr => ∃ j : Nat, ∃ u : ByteArray, j ≤ s.acs.length ∧ m = s.acs.length - j ∧ i = .int .i64 j ∧ vu = .string u ∧ u.size ≤ 24 * j ∧ Hid (L u = jn 44 ((accL s).take (j - 1))) ∧ Hid (Below w.heap.size w wr))
  case atStart => exact ⟨0, ⟨#[]⟩, by omega, rfl, rfl, rfl, Nat.le_refl 0, rfl, Below.refl _ _⟩
  case round =>
    obtain ⟨j, u, hj, rfl, rfl, rfl, hus, Hu, Hb⟩ := hrel
    have hsz := (unhide Hb).size
    by_cases hlt : j < s.acs.length
    · obtain ⟨c, hc⟩ := acs_get hlt
      have hro := ownsRow_below (unhide H).acs (unhide Hb)
      have d1 := ownsRow_cell hro (j := j * 2) (two_get (fun a : Ac => Value.int .i64 a.1) (fun a => .bool a.2) s.acs j c hc).1
      have d2 := ownsRow_cell hro (j := j * 2 + 1) (two_get (fun a : Ac => Value.int .i64 a.1) (fun a => .bool a.2) s.acs j c hc).2
      have hpar := (unhide H).good.par c (List.mem_of_getElem? hc)
      cases j with
      | zero =>
        obtain ⟨cp, cc⟩ := c
        simp only at d1 d2
        clear hro hc hpar
        go_wp2_with fail
        go_roundg (s.acs.length - (0 + 1))
        case measure => omega
        case rel => exact ⟨0 + 1, u, by omega, rfl, by go_num, rfl, by omega, unhide Hu, (unhide Hb).alloc hsz _⟩
      | succ j =>
        have Hst := hide (fun t => acc_step (t := t) hc (by exact unhide Hu))
        obtain ⟨cp, cc⟩ := c
        simp only at d1 d2 hpar Hst
        have hne : (((j + 1 : Nat) : Int) == 0) = false := by simp; omega
        clear hro hc
        by_cases hj0 : j = 0
        · subst hj0
          go_wp2_with fail
          refine (itoa_any cp _ (by omega) (by omega) ((unhide Ht).below (by exact (unhide Hb).alloc hsz _))).mono ?_
          rintro e w3 ⟨t, rfl, ht, hb3⟩
          have htz : t.size ≤ 21 := itoa_size (by omega) (by omega) ht
          have Hb3 : Hid (Below w.heap.size w w3) := ((unhide Hb).alloc hsz _).then' (by simp; omega) hb3
          have k1 := hb3.cell (p := ⟨wr.heap.size, 1, none⟩) (by simp)
          simp at k1
          have Hn := hide ((unhide Hst _ ht).1 (by simp))
          clear ht hb3
          cases cc with
          | true =>
            go_wp2_with fail
            go_roundg (s.acs.length - (0 + 1 + 1))
            case measure => omega
            case rel => exact ⟨0 + 1 + 1, u ++ t ++ ⟨#[120]⟩, by omega, rfl, by go_num, rfl, by rw [ByteArray.size_append, ByteArray.size_append]; show u.size + t.size + 1 ≤ _; omega, by show _ = _; rw [L_append, L_append]; exact unhide Hn, unhide Hb3⟩
          | false =>
            go_wp2_with fail
            go_roundg (s.acs.length - (0 + 1 + 1))
            case measure => omega
            case rel => exact ⟨0 + 1 + 1, u ++ t, by omega, rfl, by go_num, rfl, by rw [ByteArray.size_append]; omega, by show _ = _; rw [L_append]; simpa using unhide Hn, unhide Hb3⟩
        · have hgt : decide ((1 : Int) < ((j + 1 : Nat) : Int)) = true := by simp; omega
          go_wp2_with fail
          refine (itoa_any cp _ (by omega) (by omega) ((unhide Ht).below (by exact (unhide Hb).alloc hsz _))).mono ?_
          rintro e w3 ⟨t, rfl, ht, hb3⟩
          have htz : t.size ≤ 21 := itoa_size (by omega) (by omega) ht
          have Hb3 : Hid (Below w.heap.size w w3) := ((unhide Hb).alloc hsz _).then' (by simp; omega) hb3
          have k1 := hb3.cell (p := ⟨wr.heap.size, 1, none⟩) (by simp)
          simp at k1
          have Hn := hide ((unhide Hst _ ht).2 (by omega))
          clear ht hb3
          cases cc with
          | true =>
            go_wp2_with fail
            go_roundg (s.acs.length - (j + 1 + 1))
            case measure => omega
            case rel => exact ⟨j + 1 + 1, u ++ ⟨#[44]⟩ ++ t ++ ⟨#[120]⟩, by omega, rfl, by go_num, rfl, by rw [ByteArray.size_append, ByteArray.size_append, ByteArray.size_append]; show u.size + 1 + t.size + 1 ≤ _; omega, by show _ = _; rw [L_append, L_append, L_append]; exact unhide Hn, unhide Hb3⟩
          | false =>
            go_wp2_with fail
            go_roundg (s.acs.length - (j + 1 + 1))
            case measure => omega
            case rel => exact ⟨j + 1 + 1, u ++ ⟨#[44]⟩ ++ t, by omega, rfl, by go_num, rfl, by rw [ByteArray.size_append, ByteArray.size_append]; show u.size + 1 + t.size ≤ _; omega, by show _ = _; rw [L_append, L_append]; have := unhide Hn; simpa [L] using this, unhide Hb3⟩
    · obtain rfl : j = s.acs.length := by omega
      go_wp2_with fail
      go_ret
      exact ⟨u, rfl, accL_all (unhide Hu), unhide Hb⟩

set_option maxHeartbeats 1000000 in
theorem dayAccounts_any (B p : Nat) (s : Bk) (w : World) (h : Led w B p s) (ht : Tab w) :
    Calls Tryz.prog 12 #[.pointer (some ⟨p, 0, none⟩)] w fun e w' => ∃ u : ByteArray, e = .returned (.string u) ∧ L u = accT s ∧ Below w.heap.size w w' := by
  have Hc := hide (ledAccounts_any B p s w h ht)
  clear h ht
  go_enter Tryz.func12, Tryz.ntmps12
  go_wp2_with fail
  refine (unhide Hc).mono ?_
  rintro e w1 ⟨u, rfl, hu, hb⟩
  have Hu := hide hu
  have Hb := hide hb
  clear hu hb
  go_wp2_with fail
  go_ret
  exact ⟨u, rfl, unhide Hu, unhide Hb⟩

set_option maxRecDepth 100000 in
set_option maxHeartbeats 4000000 in
theorem refAccounts_any (B p : Nat) (s : Bk) (w : World) (h : Rfd w B p s) :
    Calls Tryz.prog 13 #[.pointer (some ⟨p, 0, none⟩)] w fun e w' => ∃ u : ByteArray, e = .returned (.string u) ∧ L u = accT s ∧ Below w.heap.size w w' := by
  obtain ⟨vp, vc, vt, tv, h⟩ := h
  obtain ⟨g, cap, rfl, hg, hg'⟩ := ownsRow_some h.par h.good.one
  obtain ⟨g2, cap2, rfl, hg2, hg2'⟩ := ownsRow_some h.clo h.good.one
  have hfew := h.good.few
  have hone := h.good.one
  have H := hide h
  clear h
  go_enter Tryz.func13, Tryz.ntmps13
  go_wp2_with fail
  go_loopg [3, 4] s.acs.length (fun m vu i wr => ∃ j : Nat, ∃ u : ByteArray, j + 1 ≤ s.acs.length ∧ m = s.acs.length - j ∧ i = .int .i64 ((j + 1 : Nat) : Int) ∧ vu = .string u ∧ u.size ≤ 24 * j ∧ Hid (L u = jn 44 ((accL s).take j)) ∧ Hid (Below w.heap.size w wr))
  case atStart => exact ⟨0, ⟨#[]⟩, by omega, by omega, rfl, rfl, Nat.le_refl 0, rfl, Below.refl _ _⟩
  case round =>
    obtain ⟨j, u, hj, rfl, rfl, rfl, hus, Hu, Hb⟩ := hrel
    have hsz := (unhide Hb).size
    have H1 := hide ((unhide H).kept (unhide Hb))
    have c0 := (unhide H1).blk.cell 0
    simp only [List.getElem?_toArray, List.getElem?_cons_zero] at c0
    by_cases hlt : j + 1 < s.acs.length
    · obtain ⟨c, hc⟩ := acs_get hlt
      have d1 := ownsRow_cell (unhide H1).par (j := j + 1) (u := .int .i64 c.1) (by rw [List.getElem?_map, hc]; rfl)
      have hpar := (unhide H).good.par c (List.mem_of_getElem? hc)
      have Hst := hide (fun t => acc_step (t := t) hc (unhide Hu))
      have Hcl := hide (fun (wx : World) (hb : Below w.heap.size w wx) => ownsRow_cell ((unhide H).kept hb).clo (j := j + 1) (u := .bool c.2) (by rw [List.getElem?_map, hc]; rfl))
      obtain ⟨cp, cc⟩ := c
      simp only at d1 hpar Hst Hcl
      clear hc
      by_cases hj0 : j = 0
      · subst hj0
        go_wp2_with fail
        refine (number10_any cp _ (by omega) (by omega)).mono ?_
        rintro e w3 ⟨t, rfl, ht, hb3⟩
        have htz : t.size ≤ 21 := itoa_size (by omega) (by omega) ht
        have Hb3 : Hid (Below w.heap.size w w3) := (unhide Hb).then' (by omega) hb3
        have d2 := unhide Hcl _ (unhide Hb3)
        have c3 := ((unhide H).kept (unhide Hb3)).blk.cell 1
        simp only [List.getElem?_toArray, List.getElem?_cons_zero, List.getElem?_cons_succ] at c3
        have Hn := hide ((unhide Hst _ ht).1 (by simp))
        clear ht hb3
        cases cc with
        | true =>
          go_wp2_with fail
          go_roundg (s.acs.length - (0 + 1))
          case measure => omega
          case rel => exact ⟨0 + 1, u ++ t ++ ⟨#[120]⟩, by omega, rfl, by go_num, rfl, by rw [ByteArray.size_append, ByteArray.size_append]; show u.size + t.size + 1 ≤ _; omega, by show _ = _; rw [L_append, L_append]; exact unhide Hn, unhide Hb3⟩
        | false =>
          go_wp2_with fail
          go_roundg (s.acs.length - (0 + 1))
          case measure => omega
          case rel => exact ⟨0 + 1, u ++ t, by omega, rfl, by go_num, rfl, by rw [ByteArray.size_append]; omega, by show _ = _; rw [L_append]; simpa using unhide Hn, unhide Hb3⟩
      · have hgt : decide ((1 : Int) < ((j + 1 : Nat) : Int)) = true := by simp; omega
        go_wp2_with fail
        refine (number10_any cp _ (by omega) (by omega)).mono ?_
        rintro e w3 ⟨t, rfl, ht, hb3⟩
        have htz : t.size ≤ 21 := itoa_size (by omega) (by omega) ht
        have Hb3 : Hid (Below w.heap.size w w3) := (unhide Hb).then' (by omega) hb3
        have d2 := unhide Hcl _ (unhide Hb3)
        have c3 := ((unhide H).kept (unhide Hb3)).blk.cell 1
        simp only [List.getElem?_toArray, List.getElem?_cons_zero, List.getElem?_cons_succ] at c3
        have Hn := hide ((unhide Hst _ ht).2 (by omega))
        clear ht hb3
        cases cc with
        | true =>
          go_wp2_with fail
          go_roundg (s.acs.length - (j + 1))
          case measure => omega
          case rel => exact ⟨j + 1, u ++ ⟨#[44]⟩ ++ t ++ ⟨#[120]⟩, by omega, rfl, by go_num, rfl, by rw [ByteArray.size_append, ByteArray.size_append, ByteArray.size_append]; show u.size + 1 + t.size + 1 ≤ _; omega, by show _ = _; rw [L_append, L_append, L_append]; exact unhide Hn, unhide Hb3⟩
        | false =>
          go_wp2_with fail
          go_roundg (s.acs.length - (j + 1))
          case measure => omega
          case rel => exact ⟨j + 1, u ++ ⟨#[44]⟩ ++ t, by omega, rfl, by go_num, rfl, by rw [ByteArray.size_append, ByteArray.size_append]; show u.size + 1 + t.size ≤ _; omega, by show _ = _; rw [L_append, L_append]; have := unhide Hn; simpa [L] using this, unhide Hb3⟩
    · obtain rfl : j = s.acs.length - 1 := by omega
      go_wp2_with fail
      go_ret
      exact ⟨u, rfl, accL_all (unhide Hu), unhide Hb⟩

end Go.Proofs.YtpcdkhmahbecaaaGreatDoor
