/- Walks of the books: the program's Journal. -/
import Derived.Test.YtpcdkhmahbecaaaGreatDoorBkP
namespace Go.Proofs.YtpcdkhmahbecaaaGreatDoor
open Go.RowKit Db

def prT (a b : Int) : List UInt8 := Lib.itoa a ++ 58 :: Lib.itoa b
def lnT (l : List Ln) : List UInt8 := l.flatMap fun x => 44 :: prT x.1 x.2
def txT (t : Tn) : List UInt8 := prT t.1 t.2.1 ++ lnT t.2.2
def jrL (s : Bk) : List (List UInt8) := s.txs.map txT
def jrT (s : Bk) : List UInt8 := jn 59 (jrL s)
theorem lnT_step {l : List Ln} {j : Nat} {x : Ln} (h : l[j]? = some x) : lnT (l.take (j + 1)) = lnT (l.take j) ++ 44 :: prT x.1 x.2 := by
  unfold lnT; rw [List.take_add_one, h]; simp
theorem prT_size {a b : Int} (h0 : -9223372036854775808 ≤ a) (h1 : a ≤ 9223372036854775807) (h2 : -9223372036854775808 ≤ b) (h3 : b ≤ 9223372036854775807) : (prT a b).length ≤ 43 := by
  have := Lib.itoa_length_le a h0 h1
  have := Lib.itoa_length_le b h2 h3
  unfold prT
  rw [List.length_append, List.length_cons]
  omega
theorem jr_step {s : Bk} {j : Nat} {t : Tn} (h : s.txs[j]? = some t) {u x : List UInt8} (hu : u = jn 59 ((jrL s).take j)) (hx : x = txT t) :
    (j = 0 → u ++ x = jn 59 ((jrL s).take (j + 1))) ∧ (0 < j → u ++ [59] ++ x = jn 59 ((jrL s).take (j + 1))) := by
  have hm : (jrL s)[j]? = some x := by unfold jrL; rw [List.getElem?_map, h, hx]; rfl
  constructor
  · rintro rfl
    rw [jn_one hm, hu]; rfl
  · intro hj
    rw [jn_more hj hm, hu]; simp
/-- What is known of a transaction's numbers. -/
structure TxOk (t : Tn) : Prop where
  id : 0 ≤ t.1 ∧ t.1 ≤ 9999
  day : 0 ≤ t.2.1 ∧ t.2.1 ≤ 999
  few : t.2.2.length ≤ 4
  lns : ∀ l ∈ t.2.2, 0 < l.1 ∧ l.1 < 16 ∧ -1000000000000 ≤ l.2 ∧ l.2 ≤ 1000000000000
theorem good_ok {s : Bk} (h : BkGood s) {t : Tn} (ht : t ∈ s.txs) : TxOk t := by
  have := h.tx t ht
  exact ⟨⟨this.1, this.2.1⟩, ⟨this.2.2.1, this.2.2.2.1⟩, this.2.2.2.2.1, this.2.2.2.2.2⟩

set_option maxRecDepth 100000 in
set_option maxHeartbeats 1000000 in
theorem showPair_any (a b : Int) (w : World) (h0 : -9223372036854775808 ≤ a) (h1 : a ≤ 9223372036854775807) (h2 : -9223372036854775808 ≤ b) (h3 : b ≤ 9223372036854775807) (ht : Tab w) :
    Calls Tryz.prog 74 #[.int .i64 a, .int .i64 b] w fun e w' => ∃ u : ByteArray, e = .returned (.string u) ∧ L u = prT a b ∧ Below w.heap.size w w' := by
  have Ht := hide ht
  clear ht
  go_enter Tryz.func74, Tryz.ntmps74
  go_wp2_with fail
  refine (itoa_any a _ h0 h1 (unhide Ht)).mono ?_
  rintro e w1 ⟨u1, rfl, hu1, hb1⟩
  have hs1 := itoa_size h0 h1 hu1
  have Hu1 := hide hu1
  have Hb1 := hide hb1
  clear hu1 hb1
  go_wp2_with fail
  refine (itoa_any b _ h2 h3 ((unhide Ht).below (unhide Hb1))).mono ?_
  rintro e w2 ⟨u2, rfl, hu2, hb2⟩
  have hs2 := itoa_size h2 h3 hu2
  have Hu2 := hide hu2
  have Hb2 := hide ((unhide Hb1).then hb2)
  clear hu2 hb2
  go_wp2_with fail
  go_ret
  refine ⟨_, rfl, ?_, unhide Hb2⟩
  rw [L_append, L_append, unhide Hu1, unhide Hu2]
  show Lib.itoa a ++ [58] ++ Lib.itoa b = _
  unfold prT
  simp

set_option maxRecDepth 100000 in
set_option maxHeartbeats 2000000 in
theorem showTx_any (ti td : Int) (ls : List Ln) (v : Value) (w : World) (hok : TxOk (ti, td, ls)) (hl : LinesAt w v ls) (ht : Tab w) :
    Calls Tryz.prog 44 #[.agg #[.int .i64 ti, .int .i64 td, v]] w fun e w' => ∃ u : ByteArray, e = .returned (.string u) ∧ L u = txT (ti, td, ls) ∧ u.size ≤ 219 ∧ Below w.heap.size w w' := by
  obtain ⟨ao, cap, rfl⟩ := hl.form
  obtain ⟨⟨i0, i1⟩, ⟨d0, d1⟩, h4, hln⟩ := hok
  simp only at i0 i1 d0 d1 h4 hln
  have Ht := hide ht
  have Hl := hide hl
  have Hln := hide hln
  obtain ⟨W, hW⟩ : ∃ W, w.alloc (.cells #[.int .i64 ti, .int .i64 td, .slice ao ls.length cap] 101) = W := ⟨_, rfl⟩
  have HB : Hid (Blk W w.heap.size #[.int .i64 ti, .int .i64 td, .slice ao ls.length cap] 101) := by rw [← hW]; exact Blk.new _ _ _
  have Hw : Hid (Below w.heap.size w W) := by rw [← hW]; exact (Below.refl _ _).alloc (Nat.le_refl _) _
  have x0 := (unhide HB).cell 0
  have x1 := (unhide HB).cell 1
  simp only [List.getElem?_toArray, List.getElem?_cons_zero, List.getElem?_cons_succ] at x0 x1
  clear ht hl hln
  go_enter Tryz.func44, Tryz.ntmps44
  go_wp2_with fail
  try rw [hW]
  refine (showPair_any ti td W (by omega) (by omega) (by omega) (by omega) ((unhide Ht).below (unhide Hw))).mono ?_
  rintro e w1 ⟨u0, rfl, hu0, hb1⟩
  have hz0 : u0.size ≤ 43 := by rw [size_L, hu0]; exact prT_size (by omega) (by omega) (by omega) (by omega)
  have HB1 := hide ((unhide HB).kept hb1)
  have x2 := (unhide HB1).cell 2
  simp only [List.getElem?_toArray, List.getElem?_cons_zero, List.getElem?_cons_succ] at x2
  have Hb1 := hide ((unhide Hw).then hb1)
  have Hu0 := hide hu0
  clear hu0 hb1 hW
  go_wp2_with fail
  go_loopg [3, 14] ls.length (fun m vu i wr => ∃ j : Nat, ∃ u : ByteArray, j ≤ ls.length ∧ m = ls.length - j ∧ i = .int .i64 j ∧ vu = .string u ∧ u.size ≤ 43 + 44 * j ∧ Hid (L u = prT ti td ++ lnT (ls.take j)) ∧ Hid (Below w.heap.size w wr))
  case atStart => exact ⟨0, u0, by omega, rfl, rfl, rfl, by omega, by show _ = _; rw [unhide Hu0]; simp [lnT], unhide Hb1⟩
  case round =>
    obtain ⟨j, u, hj, rfl, rfl, rfl, hus, Hu, Hb⟩ := hrel
    have hsz := (unhide Hb).size
    by_cases hlt : j < ls.length
    · obtain ⟨⟨la, lm⟩, hlj⟩ : ∃ l, ls[j]? = some l := ⟨ls[j], List.getElem?_eq_getElem hlt⟩
      obtain ⟨_, b, off, rfl, hbl, d1', d2'⟩ := ((unhide Hl).kept (unhide Hb)).line hlj
      have hb := unhide Hln _ (List.mem_of_getElem? hlj)
      have Hst := hide (lnT_step hlj)
      simp only at d1' d2' hb Hst
      clear hlj
      go_wp2_with fail
      refine (showPair_any la lm _ (by omega) (by omega) (by omega) (by omega) ((unhide Ht).below (by exact (unhide Hb).alloc hsz _))).mono ?_
      rintro e w3 ⟨y, rfl, hy, hb3⟩
      have hyz : y.size ≤ 43 := by rw [size_L, hy]; exact prT_size (by omega) (by omega) (by omega) (by omega)
      have Hb3 : Hid (Below w.heap.size w w3) := ((unhide Hb).alloc hsz _).then' (by simp; omega) hb3
      have Hy := hide hy
      clear hy hb3
      go_wp2_with fail
      go_roundg (ls.length - (j + 1))
      case measure => omega
      case rel => exact ⟨j + 1, u ++ (⟨#[44]⟩ ++ y), by omega, rfl, by go_num, rfl, by rw [ByteArray.size_append, ByteArray.size_append]; show u.size + (1 + y.size) ≤ _; omega, by show _ = _; rw [L_append, L_append, unhide Hu, unhide Hy, unhide Hst, List.append_assoc]; rfl, unhide Hb3⟩
    · obtain rfl : j = ls.length := by omega
      go_wp2_with fail
      go_ret
      refine ⟨u, rfl, ?_, by omega, unhide Hb⟩
      rw [unhide Hu, List.take_length]; rfl

set_option maxRecDepth 100000 in
set_option maxHeartbeats 2000000 in
theorem ledJournal_any (B p : Nat) (s : Bk) (w : World) (h : Led w B p s) (ht : Tab w) :
    Calls Tryz.prog 25 #[.pointer (some ⟨p, 0, none⟩)] w fun e w' => ∃ u : ByteArray, e = .returned (.string u) ∧ L u = jrT s ∧ Below w.heap.size w w' := by
  obtain ⟨va, vt, tv, h⟩ := h
  obtain ⟨ao, cap, rfl⟩ := ownsRow_form h.txs.own
  have c1 := h.blk.cell 1
  simp only [List.getElem?_toArray, List.getElem?_cons_zero, List.getElem?_cons_succ] at c1
  have hlen : tv.length ≤ 64 := by have := h.good.posts; rw [← h.jr, List.length_map] at this; exact this
  have Hjr := hide h.jr
  have H := hide h
  have Ht := hide ht
  clear h ht
  go_enter Tryz.func25, Tryz.ntmps25
  go_wp2_with fail
  go_loopg [3, 11] tv.length (fun m vu i wr => ∃ j : Nat, ∃ u : ByteArray, j ≤ tv.length ∧ m = tv.length - j ∧ i = .int .i64 j ∧ vu = .string u ∧ u.size ≤ 220 * j ∧ Hid (L u = jn 59 ((jrL s).take j)) ∧ Hid (Below w.heap.size w wr))
  case atStart => exact ⟨0, ⟨#[]⟩, by omega, rfl, rfl, rfl, Nat.le_refl 0, rfl, Below.refl _ _⟩
  case round =>
    obtain ⟨j, u, hj, rfl, rfl, rfl, hus, Hu, Hb⟩ := hrel
    have hsz := (unhide Hb).size
    by_cases hlt : j < tv.length
    · obtain ⟨⟨t, v⟩, htj⟩ : ∃ t, tv[j]? = some t := ⟨tv[j], List.getElem?_eq_getElem hlt⟩
      obtain ⟨g, _, e1, hg, hg'⟩ := ownsRow_some (unhide H).txs.own (by omega)
      simp only [Value.slice.injEq, true_and] at e1
      obtain ⟨rfl, rfl⟩ := e1
      have h3 := three_get (fun x : Tn × Value => Value.int .i64 x.1.1) (fun x => .int .i64 x.1.2.1) (fun x => x.2) tv j (t, v) htj
      have hro := ownsRow_below (unhide H).txs.own (unhide Hb)
      have d0 := ownsRow_cell hro (j := j * 3) h3.1
      have d1 := ownsRow_cell hro (j := j * 3 + 1) h3.2.1
      have d2 := ownsRow_cell hro (j := j * 3 + 2) h3.2.2
      have hln := ((unhide H).kept (unhide Hb)).txs.lns _ (List.mem_of_getElem? htj)
      have hst : s.txs[j]? = some t := by rw [← unhide Hjr, List.getElem?_map, htj]; rfl
      have Hok := hide (good_ok (unhide H).good (List.mem_of_getElem? hst))
      have Hst := hide (fun x => jr_step (x := x) hst (unhide Hu))
      obtain ⟨ti, td, ls⟩ := t
      simp only at d0 d1 d2 hln
      obtain ⟨aol, capl, rfl⟩ := ownsRow_form hln
      have Hln := hide hln
      clear h3 hro hln hst htj
      by_cases hj0 : j = 0
      · subst hj0
        go_wp2_with fail
        refine (showTx_any ti td ls _ _ (unhide Hok) (by exact (LinesAt.of_own (unhide Hln)).kept ((Below.refl _ _).alloc (Nat.le_refl _) _)) ((unhide Ht).below (by exact (unhide Hb).alloc hsz _))).mono ?_
        rintro e w3 ⟨y, rfl, hy, hyz, hb3⟩
        have Hb3 : Hid (Below w.heap.size w w3) := ((unhide Hb).alloc hsz _).then' (by simp; omega) hb3
        have Hn := hide ((unhide Hst _ hy).1 (by simp))
        clear hy hb3
        go_wp2_with fail
        go_roundg (tv.length - (0 + 1))
        case measure => omega
        case rel => exact ⟨0 + 1, u ++ y, by omega, rfl, by go_num, rfl, by rw [ByteArray.size_append]; omega, by show _ = _; rw [L_append]; exact unhide Hn, unhide Hb3⟩
      · have hdd : decide ((0 : Int) < (j : Int)) = true := by simp; omega
        go_wp2_with fail
        refine (showTx_any ti td ls _ _ (unhide Hok) (by exact (LinesAt.of_own (unhide Hln)).kept ((Below.refl _ _).alloc (Nat.le_refl _) _)) ((unhide Ht).below (by exact (unhide Hb).alloc hsz _))).mono ?_
        rintro e w3 ⟨y, rfl, hy, hyz, hb3⟩
        have Hb3 : Hid (Below w.heap.size w w3) := ((unhide Hb).alloc hsz _).then' (by simp; omega) hb3
        have Hn := hide ((unhide Hst _ hy).2 (by omega))
        clear hy hb3
        go_wp2_with fail
        go_roundg (tv.length - (j + 1))
        case measure => omega
        case rel => exact ⟨j + 1, u ++ ⟨#[59]⟩ ++ y, by omega, rfl, by go_num, rfl, by rw [ByteArray.size_append, ByteArray.size_append]; show u.size + 1 + y.size ≤ _; omega, by show _ = _; rw [L_append, L_append]; exact unhide Hn, unhide Hb3⟩
    · obtain rfl : j = tv.length := by omega
      go_wp2_with fail
      go_ret
      refine ⟨u, rfl, ?_, unhide Hb⟩
      rw [unhide Hu, List.take_of_length_le (by unfold jrL; rw [List.length_map, ← unhide Hjr, List.length_map]; exact Nat.le_refl _)]; rfl

set_option maxHeartbeats 1000000 in
theorem dayJournal_any (B p : Nat) (s : Bk) (w : World) (h : Led w B p s) (ht : Tab w) :
    Calls Tryz.prog 14 #[.pointer (some ⟨p, 0, none⟩)] w fun e w' => ∃ u : ByteArray, e = .returned (.string u) ∧ L u = jrT s ∧ Below w.heap.size w w' := by
  have Hc := hide (ledJournal_any B p s w h ht)
  clear h ht
  go_enter Tryz.func14, Tryz.ntmps14
  go_wp2_with fail
  refine (unhide Hc).mono ?_
  rintro e w1 ⟨u, rfl, hu, hb⟩
  have Hu := hide hu
  have Hb := hide hb
  clear hu hb
  go_wp2_with fail
  go_ret
  exact ⟨u, rfl, unhide Hu, unhide Hb⟩

end Go.Proofs.YtpcdkhmahbecaaaGreatDoor
