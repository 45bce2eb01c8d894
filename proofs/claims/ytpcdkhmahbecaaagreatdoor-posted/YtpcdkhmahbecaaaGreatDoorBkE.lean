/- Walks of the books: the program's Close. -/
import Derived.Test.YtpcdkhmahbecaaaGreatDoorBkD
import Derived.Deep.LoopGhost
namespace Go.Proofs.YtpcdkhmahbecaaaGreatDoor
open Go.RowKit Db

theorem retI' {k : IntKind} {a b : Int} (h : a = b) : Ending.returned (.int k a) = .returned (.int k b) := by rw [h]
theorem opb_step {a : Int} {l : List Ac} {j : Nat} {c : Ac} (h : l[j]? = some c) : opb a (l.drop j) = ((c.1 == a && !c.2) || opb a (l.drop (j + 1))) := by
  obtain ⟨hi, rfl⟩ := List.getElem?_eq_some_iff.1 h
  rw [List.drop_eq_getElem_cons hi]; rfl
theorem balT_step {a : Int} {l : List Tn} {j : Nat} {t : Tn} (h : l[j]? = some t) : balT a (l.drop j) = balL a t.2.2 + balT a (l.drop (j + 1)) := by
  obtain ⟨hi, rfl⟩ := List.getElem?_eq_some_iff.1 h
  rw [List.drop_eq_getElem_cons hi]; rfl
theorem balL_step {a : Int} {l : List Ln} {j : Nat} {t : Ln} (h : l[j]? = some t) : balL a (l.drop j) = (if t.1 == a then t.2 else 0) + balL a (l.drop (j + 1)) := by
  obtain ⟨hi, rfl⟩ := List.getElem?_eq_some_iff.1 h
  rw [List.drop_eq_getElem_cons hi]; rfl

set_option maxRecDepth 100000 in
set_option maxHeartbeats 2000000 in
theorem hasOpen_any (B p : Nat) (s : Bk) (a : Int) (w : World) (h : Led w B p s) :
    Calls Tryz.prog 115 #[.pointer (some ⟨p, 0, none⟩), .int .i64 a] w fun e w' => e = .returned (.bool (opb a s.acs)) ∧ Below w.heap.size w w' := by
  obtain ⟨va, vt, tv, h⟩ := h
  obtain ⟨g, cap, rfl, hg, hg'⟩ := ownsRow_some h.acs h.good.one
  have c0 := h.blk.cell 0
  simp only [List.getElem?_toArray, List.getElem?_cons_zero] at c0
  have hfew := h.good.few
  have H := hide h
  clear h
  go_enter Tryz.func115, Tryz.ntmps115
  go_wp2_with fail
  go_loopg [12] s.acs.length (fun m i wr => ∃ j : Nat, j ≤ s.acs.length ∧ m = s.acs.length - j ∧ i = .int .i64 j ∧ Hid (opb a (s.acs.drop j) = opb a s.acs) ∧ Hid (Below w.heap.size w wr))
  case atStart => exact ⟨0, by omega, rfl, rfl, rfl, Below.refl _ _⟩
  case round =>
    obtain ⟨j, hj, rfl, rfl, Ho, Hb⟩ := hrel
    have hsz := (unhide Hb).size
    by_cases hlt : j < s.acs.length
    · obtain ⟨c, hc⟩ := acs_get hlt
      have hro := ownsRow_below (unhide H).acs (unhide Hb)
      have d1 := ownsRow_cell hro (j := j * 2) (two_get (fun a : Ac => Value.int .i64 a.1) (fun a => .bool a.2) s.acs j c hc).1
      have d2 := ownsRow_cell hro (j := j * 2 + 1) (two_get (fun a : Ac => Value.int .i64 a.1) (fun a => .bool a.2) s.acs j c hc).2
      have Hst := hide (opb_step (a := a) hc)
      obtain ⟨cp, cc⟩ := c
      simp only at d1 d2 Hst
      clear hro hc
      by_cases hcp : cp = a
      · subst hcp
        cases cc with
        | true =>
          go_wp2_with fail
          go_roundg (s.acs.length - (j + 1))
          case measure => omega
          case rel => exact ⟨j + 1, by omega, rfl, by go_num, by show _ = _; rw [← unhide Ho, unhide Hst]; simp, (unhide Hb).alloc hsz _⟩
        | false =>
          go_wp2_with fail
          go_ret
          exact ⟨retB' (by rw [← unhide Ho, unhide Hst]; simp), (unhide Hb).alloc hsz _⟩
      · have hne : (cp == a) = false := by simpa using hcp
        go_wp2_with fail
        go_roundg (s.acs.length - (j + 1))
        case measure => omega
        case rel => exact ⟨j + 1, by omega, rfl, by go_num, by show _ = _; rw [← unhide Ho, unhide Hst, hne]; simp, (unhide Hb).alloc hsz _⟩
    · obtain rfl : j = s.acs.length := by omega
      go_wp2_with fail
      go_ret
      exact ⟨retB' (by rw [← unhide Ho, List.drop_length]; rfl), unhide Hb⟩

set_option maxRecDepth 100000 in
set_option maxHeartbeats 4000000 in
theorem balance_any (B p : Nat) (s : Bk) (a : Int) (w : World) (h : Led w B p s) :
    Calls Tryz.prog 116 #[.pointer (some ⟨p, 0, none⟩), .int .i64 a] w fun e w' => e = .returned (.int .i64 (balT a s.txs)) ∧ Below w.heap.size w w' := by
  obtain ⟨va, vt, tv, h⟩ := h
  obtain ⟨ao, cap, rfl⟩ := ownsRow_form h.txs.own
  have c1 := h.blk.cell 1
  simp only [List.getElem?_toArray, List.getElem?_cons_zero, List.getElem?_cons_succ] at c1
  have hlen : tv.length ≤ 64 := by have := h.good.posts; rw [← h.jr, List.length_map] at this; exact this
  have Hjr := hide h.jr
  have H := hide h
  clear h
  go_enter Tryz.func116, Tryz.ntmps116
  go_wp2_with fail
  go_loopg [5, 15] tv.length (fun m v i wr => ∃ j : Nat, ∃ x : Int, j ≤ tv.length ∧ m = tv.length - j ∧ i = .int .i64 j ∧ v = .int .i64 x ∧ -(4000000000000 * (j : Int)) ≤ x ∧ x ≤ 4000000000000 * (j : Int) ∧ Hid (x + balT a (s.txs.drop j) = balT a s.txs) ∧ Hid (Below w.heap.size w wr))
  case atStart => exact ⟨0, 0, by omega, rfl, rfl, rfl, by omega, by omega, by show _ = _; simp, Below.refl _ _⟩
  case round =>
    obtain ⟨j, x, hj, rfl, rfl, rfl, hx0, hx1, Ho, Hb⟩ := hrel
    have hsz := (unhide Hb).size
    by_cases hlt : j < tv.length
    · obtain ⟨⟨t, v⟩, ht⟩ : ∃ t, tv[j]? = some t := ⟨tv[j], List.getElem?_eq_getElem hlt⟩
      obtain ⟨g, _, e1, hg, hg'⟩ := ownsRow_some (unhide H).txs.own (by omega)
      simp only [Value.slice.injEq, true_and] at e1
      obtain ⟨rfl, rfl⟩ := e1
      have h3 := three_get (fun x : Tn × Value => Value.int .i64 x.1.1) (fun x => .int .i64 x.1.2.1) (fun x => x.2) tv j (t, v) ht
      have hro := ownsRow_below (unhide H).txs.own (unhide Hb)
      have d0 := ownsRow_cell hro (j := j * 3) h3.1
      have d1 := ownsRow_cell hro (j := j * 3 + 1) h3.2.1
      have d2 := ownsRow_cell hro (j := j * 3 + 2) h3.2.2
      have hmem := List.mem_of_getElem? ht
      have hl := (unhide H).txs.lns _ hmem
      have hst : s.txs[j]? = some t := by rw [← unhide Hjr, List.getElem?_map, ht]; rfl
      have hgt := (unhide H).good.tx t (List.mem_of_getElem? hst)
      have Hst := hide (balT_step (a := a) hst)
      obtain ⟨ti, td, ls⟩ := t
      simp only at d0 d1 d2 hl hgt Hst
      obtain ⟨aol, capl, rfl⟩ := ownsRow_form hl
      have hl4 := hgt.2.2.2.2.1
      have Hlb := hide hgt.2.2.2.2.2
      have Hl := hide (ownsRow_below hl (unhide Hb))
      clear h3 hro hmem hl hst hgt ht
      go_wp2_with fail
      obtain ⟨W, hW⟩ : ∃ W, W = wr.alloc (.cells #[.int .i64 ti, .int .i64 td, .slice aol ls.length capl] 101) := ⟨_, rfl⟩
      have HbW : Hid (Below w.heap.size w W) := by rw [hW]; exact (unhide Hb).alloc hsz _
      have HlW : Hid (W.ownsRow B 52 2 (.slice aol ls.length capl) ls.length (cellsL ls)) := by rw [hW]; exact (unhide Hl).alloc _
      rw [← hW]
      clear hW
      go_loopg [5, 22] ls.length (fun m v i wx => ∃ k : Nat, ∃ y : Int, k ≤ ls.length ∧ m = ls.length - k ∧ i = .int .i64 k ∧ v = .int .i64 y ∧ -(4000000000000 * (j : Int)) - 1000000000000 * (k : Int) ≤ y ∧ y ≤ 4000000000000 * (j : Int) + 1000000000000 * (k : Int) ∧ Hid (y + balL a (ls.drop k) = x + balL a ls) ∧ Hid (Below W.heap.size W wx))
      case atStart => exact ⟨0, x, by omega, rfl, rfl, rfl, by omega, by omega, by show _ = _; simp, Below.refl _ _⟩
      case round =>
        obtain ⟨k, y, hk, rfl, rfl, rfl, hy0, hy1, Hy, Hb2⟩ := hrel
        have hsz2 := (unhide Hb2).size
        have hszW := (unhide HbW).size
        by_cases hlt2 : k < ls.length
        · obtain ⟨⟨la, lm⟩, hlk⟩ : ∃ l, ls[k]? = some l := ⟨ls[k], List.getElem?_eq_getElem hlt2⟩
          obtain ⟨g2, _, e1, hg2, hg2'⟩ := ownsRow_some (unhide HlW) (by omega)
          simp only [Value.slice.injEq, true_and] at e1
          obtain ⟨rfl, rfl⟩ := e1
          have h2 := two_get (fun x : Ln => Value.int .i64 x.1) (fun x => .int .i64 x.2) ls k (la, lm) hlk
          have hro := ownsRow_below (unhide HlW) (unhide Hb2)
          have f0 := ownsRow_cell hro (j := k * 2) h2.1
          have f1 := ownsRow_cell hro (j := k * 2 + 1) h2.2
          have hb := unhide Hlb (la, lm) (List.mem_of_getElem? hlk)
          have Hs2 := hide (balL_step (a := a) hlk)
          simp only at f0 f1 hb Hs2
          clear h2 hro hlk
          by_cases hla : la = a
          · subst hla
            have hwr : IntKind.i64.wrap (y + lm) = y + lm := by rw [IntKind.wrap_i64]; omega
            go_wp2_with fail
            go_roundg (ls.length - (k + 1))
            case measure => omega
            case rel => exact ⟨k + 1, y + lm, by omega, rfl, by go_num, rfl, by omega, by omega, by show _ = _; have := unhide Hy; rw [unhide Hs2] at this; simp only [beq_self_eq_true, if_true] at this; omega, (unhide Hb2).alloc hsz2 _⟩
          · have hne : (la == a) = false := by simpa using hla
            go_wp2_with fail
            go_roundg (ls.length - (k + 1))
            case measure => omega
            case rel => exact ⟨k + 1, y, by omega, rfl, by go_num, rfl, by omega, by omega, by show _ = _; have := unhide Hy; rw [unhide Hs2, hne] at this; simpa using this, (unhide Hb2).alloc hsz2 _⟩
        · obtain rfl : k = ls.length := by omega
          have hyy : y = x + balL a ls := by have := unhide Hy; rw [List.drop_length] at this; simpa [balL] using this
          have Ho2 : Hid (y + balT a (s.txs.drop (j + 1)) = balT a s.txs) := by
            show _ = _
            have := unhide Ho
            rw [unhide Hst] at this
            omega
          clear hyy
          go_wp2_with fail
          go_roundg (tv.length - (j + 1))
          case measure => omega
          case rel => exact ⟨j + 1, y, by omega, rfl, by go_num, rfl, by omega, by omega, unhide Ho2, (unhide HbW).then' hszW (unhide Hb2)⟩
    · obtain rfl : j = tv.length := by omega
      go_wp2_with fail
      go_ret
      refine ⟨retI' ?_, unhide Hb⟩
      have := unhide Ho
      rw [List.drop_of_length_le (by rw [← unhide Hjr, List.length_map]; exact Nat.le_refl _)] at this
      simpa [balT] using this

end Go.Proofs.YtpcdkhmahbecaaaGreatDoor
