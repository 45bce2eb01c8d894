/- Walks of the books: the program's Journal. A record: its journal. A record: does a book tell what it says? The law's lists: handed, still, over. Lines of their own. The disk: a number, and a record, as bytes. The disk: a record as a sector. The disk: a record is laid. The program's book, with its disk: Open, Close, Post. A step on a book: called. A record: it follows a Close. -/
import Derived.Test.YtdchbenfccofpabGreatDoorC03
import Derived.Test.YtdchbenfccofpabGreatDoorC01
import Derived.Laws.IdiomStrings
import Derived.Deep.LoopGhost
import Derived.Deep.AppendLies
import Derived.Deep.RegionLaw
namespace Go.Proofs.YtdchbenfccofpabGreatDoor
open Go.RowKit Db

def prT (a b : Int) : List UInt8 := Lib.itoa a ++ 58 :: Lib.itoa b
def lnT (l : List Ln) : List UInt8 := l.flatMap fun x => 44 :: prT x.1 x.2
def txT (t : Tn) : List UInt8 := prT t.1 t.2.1 ++ lnT t.2.2
def jrL (s : Bk) : List (List UInt8) := s.txs.map txT
def jrT (s : Bk) : List UInt8 := jn 59 (jrL s)
theorem lnT_step {l : List Ln} {j : Nat} {x : Ln} (h : l[j]? = some x) : lnT (l.take (j + 1)) = lnT (l.take j) ++ 44 :: prT x.1 x.2 := by
  unfold lnT; rw [List.take_add_one, h]; simp
theorem prT_size {a b : Int} (h0 : -9223372036854775808 ≤ a) (h1 : a ≤ 9223372036854775807) (h2 : -9223372036854775808 ≤ b) (h3 : b ≤ 9223372036854775807) : (prT a b).length ≤ 43 := by
  have := Lib.itoa_length_le a h0 h1
  have := Lib.itoa_length_le b h2 h3
  unfold prT
  rw [List.length_append, List.length_cons]
  omega
theorem jr_step {s : Bk} {j : Nat} {t : Tn} (h : s.txs[j]? = some t) {u x : List UInt8} (hu : u = jn 59 ((jrL s).take j)) (hx : x = txT t) :
    (j = 0 → u ++ x = jn 59 ((jrL s).take (j + 1))) ∧ (0 < j → u ++ [59] ++ x = jn 59 ((jrL s).take (j + 1))) := by
  have hm : (jrL s)[j]? = some x := by unfold jrL; rw [List.getElem?_map, h, hx]; rfl
  constructor
  · rintro rfl
    rw [jn_one hm, hu]; rfl
  · intro hj
    rw [jn_more hj hm, hu]; simp
/-- What is known of a transaction's numbers. -/
structure TxOk (t : Tn) : Prop where
  id : 0 ≤ t.1 ∧ t.1 ≤ 9999
  day : 0 ≤ t.2.1 ∧ t.2.1 ≤ 999
  few : t.2.2.length ≤ 4
  lns : ∀ l ∈ t.2.2, 0 < l.1 ∧ l.1 < 16 ∧ -1000000000000 ≤ l.2 ∧ l.2 ≤ 1000000000000
theorem good_ok {s : Bk} (h : BkGood s) {t : Tn} (ht : t ∈ s.txs) : TxOk t := by
  have := h.tx t ht
  exact ⟨⟨this.1, this.2.1⟩, ⟨this.2.2.1, this.2.2.2.1⟩, this.2.2.2.2.1, this.2.2.2.2.2⟩

set_option maxRecDepth 100000 in
set_option maxHeartbeats 1000000 in
theorem showPair_any (a b : Int) (w : World) (h0 : -9223372036854775808 ≤ a) (h1 : a ≤ 9223372036854775807) (h2 : -9223372036854775808 ≤ b) (h3 : b ≤ 9223372036854775807) (ht : Tab w) :
    Calls Tryz.prog 92 #[.int .i64 a, .int .i64 b] w fun e w' => ∃ u : ByteArray, e = .returned (.string u) ∧ L u = prT a b ∧ Below w.heap.size w w' := by
  have Ht := hide ht
  clear ht
  go_enter Tryz.func92, Tryz.ntmps92
  go_wp2_with fail
  refine (itoa_any a _ h0 h1 (unhide Ht)).mono ?_
  rintro e w1 ⟨u1, rfl, hu1, hb1⟩
  have hs1 := itoa_size h0 h1 hu1
  have Hu1 := hide hu1
  have Hb1 := hide hb1
  clear hu1 hb1
  go_wp2_with fail
  refine (itoa_any b _ h2 h3 ((unhide Ht).below (unhide Hb1))).mono ?_
  rintro e w2 ⟨u2, rfl, hu2, hb2⟩
  have hs2 := itoa_size h2 h3 hu2
  have Hu2 := hide hu2
  have Hb2 := hide ((unhide Hb1).then hb2)
  clear hu2 hb2
  go_wp2_with fail
  go_ret
  refine ⟨_, rfl, ?_, unhide Hb2⟩
  rw [L_append, L_append, unhide Hu1, unhide Hu2]
  show Lib.itoa a ++ [58] ++ Lib.itoa b = _
  unfold prT
  simp

set_option maxRecDepth 100000 in
set_option maxHeartbeats 2000000 in
theorem showTx_any (ti td : Int) (ls : List Ln) (v : Value) (w : World) (hok : TxOk (ti, td, ls)) (hl : LinesAt w v ls) (ht : Tab w) :
    Calls Tryz.prog 70 #[.agg #[.int .i64 ti, .int .i64 td, v]] w fun e w' => ∃ u : ByteArray, e = .returned (.string u) ∧ L u = txT (ti, td, ls) ∧ u.size ≤ 219 ∧ Below w.heap.size w w' := by
  obtain ⟨ao, cap, rfl⟩ := hl.form
  obtain ⟨⟨i0, i1⟩, ⟨d0, d1⟩, h4, hln⟩ := hok
  simp only at i0 i1 d0 d1 h4 hln
  have Ht := hide ht
  have Hl := hide hl
  have Hln := hide hln
  obtain ⟨W, hW⟩ : ∃ W, w.alloc (.cells #[.int .i64 ti, .int .i64 td, .slice ao ls.length cap] 136) = W := ⟨_, rfl⟩
  have HB : Hid (Blk W w.heap.size #[.int .i64 ti, .int .i64 td, .slice ao ls.length cap] 136) := by rw [← hW]; exact Blk.new _ _ _
  have Hw : Hid (Below w.heap.size w W) := by rw [← hW]; exact (Below.refl _ _).alloc (Nat.le_refl _) _
  have x0 := (unhide HB).cell 0
  have x1 := (unhide HB).cell 1
  simp only [List.getElem?_toArray, List.getElem?_cons_zero, List.getElem?_cons_succ] at x0 x1
  clear ht hl hln
  go_enter Tryz.func70, Tryz.ntmps70
  go_wp2_with fail
  try rw [hW]
  refine (showPair_any ti td W (by omega) (by omega) (by omega) (by omega) ((unhide Ht).below (unhide Hw))).mono ?_
  rintro e w1 ⟨u0, rfl, hu0, hb1⟩
  have hz0 : u0.size ≤ 43 := by rw [size_L, hu0]; exact prT_size (by omega) (by omega) (by omega) (by omega)
  have HB1 := hide ((unhide HB).kept hb1)
  have x2 := (unhide HB1).cell 2
  simp only [List.getElem?_toArray, List.getElem?_cons_zero, List.getElem?_cons_succ] at x2
  have Hb1 := hide ((unhide Hw).then hb1)
  have Hu0 := hide hu0
  clear hu0 hb1 hW
  go_wp2_with fail
  go_loopg [3, 14] ls.length (fun m vu i wr => ∃ j : Nat, ∃ u : ByteArray, j ≤ ls.length ∧ m = ls.length - j ∧ i = .int .i64 j ∧ vu = .string u ∧ u.size ≤ 43 + 44 * j ∧ Hid (L u = prT ti td ++ lnT (ls.take j)) ∧ Hid (Below w.heap.size w wr))
  case atStart => exact ⟨0, u0, by omega, rfl, rfl, rfl, by omega, by show _ = _; rw [unhide Hu0]; simp [lnT], unhide Hb1⟩
  case round =>
    obtain ⟨j, u, hj, rfl, rfl, rfl, hus, Hu, Hb⟩ := hrel
    have hsz := (unhide Hb).size
    by_cases hlt : j < ls.length
    · obtain ⟨⟨la, lm⟩, hlj⟩ : ∃ l, ls[j]? = some l := ⟨ls[j], List.getElem?_eq_getElem hlt⟩
      obtain ⟨_, b, off, rfl, hbl, d1', d2'⟩ := ((unhide Hl).kept (unhide Hb)).line hlj
      have hb := unhide Hln _ (List.mem_of_getElem? hlj)
      have Hst := hide (lnT_step hlj)
      simp only at d1' d2' hb Hst
      clear hlj
      go_wp2_with fail
      refine (showPair_any la lm _ (by omega) (by omega) (by omega) (by omega) ((unhide Ht).below (by exact (unhide Hb).alloc hsz _))).mono ?_
      rintro e w3 ⟨y, rfl, hy, hb3⟩
      have hyz : y.size ≤ 43 := by rw [size_L, hy]; exact prT_size (by omega) (by omega) (by omega) (by omega)
      have Hb3 : Hid (Below w.heap.size w w3) := ((unhide Hb).alloc hsz _).then' (by simp; omega) hb3
      have Hy := hide hy
      clear hy hb3
      go_wp2_with fail
      go_roundg (ls.length - (j + 1))
      case measure => omega
      case rel => exact ⟨j + 1, u ++ (⟨#[44]⟩ ++ y), by omega, rfl, by go_num, rfl, by rw [ByteArray.size_append, ByteArray.size_append]; show u.size + (1 + y.size) ≤ _; omega, by show _ = _; rw [L_append, L_append, unhide Hu, unhide Hy, unhide Hst, List.append_assoc]; rfl, unhide Hb3⟩
    · obtain rfl : j = ls.length := by omega
      go_wp2_with fail
      go_ret
      refine ⟨u, rfl, ?_, by omega, unhide Hb⟩
      rw [unhide Hu, List.take_length]; rfl

set_option maxRecDepth 100000 in
set_option maxHeartbeats 2000000 in
theorem ledJournal_any (B p : Nat) (s : Bk) (w : World) (h : Led w B p s) (ht : Tab w) :
    Calls Tryz.prog 51 #[.pointer (some ⟨p, 0, none⟩)] w fun e w' => ∃ u : ByteArray, e = .returned (.string u) ∧ L u = jrT s ∧ Below w.heap.size w w' := by
  obtain ⟨va, vt, tv, dk, h⟩ := h
  obtain ⟨ao, cap, rfl⟩ := ownsRow_form h.txs.own
  have c1 := h.blk.cell 1
  simp only [List.getElem?_toArray, List.getElem?_cons_zero, List.getElem?_cons_succ] at c1
  have hlen : tv.length ≤ 64 := by have := h.good.posts; rw [← h.jr, List.length_map] at this; exact this
  have Hjr := hide h.jr
  have H := hide h
  have Ht := hide ht
  clear h ht
  go_enter Tryz.func51, Tryz.ntmps51
  go_wp2_with fail
  go_loopg [3, 11] tv.length (fun m vu i wr => ∃ j : Nat, ∃ u : ByteArray, j ≤ tv.length ∧ m = tv.length - j ∧ i = .int .i64 j ∧ vu = .string u ∧ u.size ≤ 220 * j ∧ Hid (L u = jn 59 ((jrL s).take j)) ∧ Hid (Below w.heap.size w wr))
  case atStart => exact ⟨0, ⟨#[]⟩, by omega, rfl, rfl, rfl, Nat.le_refl 0, rfl, Below.refl _ _⟩
  case round =>
    obtain ⟨j, u, hj, rfl, rfl, rfl, hus, Hu, Hb⟩ := hrel
    have hsz := (unhide Hb).size
    by_cases hlt : j < tv.length
    · obtain ⟨⟨t, v⟩, htj⟩ : ∃ t, tv[j]? = some t := ⟨tv[j], List.getElem?_eq_getElem hlt⟩
      obtain ⟨g, _, e1, hg, hg'⟩ := ownsRow_some (unhide H).txs.own (by omega)
      simp only [Value.slice.injEq, true_and] at e1
      obtain ⟨rfl, rfl⟩ := e1
      have h3 := three_get (fun x : Tn × Value => Value.int .i64 x.1.1) (fun x => .int .i64 x.1.2.1) (fun x => x.2) tv j (t, v) htj
      have hro := ownsRow_below (unhide H).txs.own (unhide Hb)
      have d0 := ownsRow_cell hro (j := j * 3) h3.1
      have d1 := ownsRow_cell hro (j := j * 3 + 1) h3.2.1
      have d2 := ownsRow_cell hro (j := j * 3 + 2) h3.2.2
      have hln := ((unhide H).kept (unhide Hb)).txs.lns _ (List.mem_of_getElem? htj)
      have hst : s.txs[j]? = some t := by rw [← unhide Hjr, List.getElem?_map, htj]; rfl
      have Hok := hide (good_ok (unhide H).good (List.mem_of_getElem? hst))
      have Hst := hide (fun x => jr_step (x := x) hst (unhide Hu))
      obtain ⟨ti, td, ls⟩ := t
      simp only at d0 d1 d2 hln
      obtain ⟨aol, capl, rfl⟩ := ownsRow_form hln
      have Hln := hide hln
      clear h3 hro hln hst htj
      by_cases hj0 : j = 0
      · subst hj0
        go_wp2_with fail
        refine (showTx_any ti td ls _ _ (unhide Hok) (by exact (LinesAt.of_own (unhide Hln)).kept ((Below.refl _ _).alloc (Nat.le_refl _) _)) ((unhide Ht).below (by exact (unhide Hb).alloc hsz _))).mono ?_
        rintro e w3 ⟨y, rfl, hy, hyz, hb3⟩
        have Hb3 : Hid (Below w.heap.size w w3) := ((unhide Hb).alloc hsz _).then' (by simp; omega) hb3
        have Hn := hide ((unhide Hst _ hy).1 (by simp))
        clear hy hb3
        go_wp2_with fail
        go_roundg (tv.length - (0 + 1))
        case measure => omega
        case rel => exact ⟨0 + 1, u ++ y, by omega, rfl, by go_num, rfl, by rw [ByteArray.size_append]; omega, by show _ = _; rw [L_append]; exact unhide Hn, unhide Hb3⟩
      · have hdd : decide ((0 : Int) < (j : Int)) = true := by simp; omega
        go_wp2_with fail
        refine (showTx_any ti td ls _ _ (unhide Hok) (by exact (LinesAt.of_own (unhide Hln)).kept ((Below.refl _ _).alloc (Nat.le_refl _) _)) ((unhide Ht).below (by exact (unhide Hb).alloc hsz _))).mono ?_
        rintro e w3 ⟨y, rfl, hy, hyz, hb3⟩
        have Hb3 : Hid (Below w.heap.size w w3) := ((unhide Hb).alloc hsz _).then' (by simp; omega) hb3
        have Hn := hide ((unhide Hst _ hy).2 (by omega))
        clear hy hb3
        go_wp2_with fail
        go_roundg (tv.length - (j + 1))
        case measure => omega
        case rel => exact ⟨j + 1, u ++ ⟨#[59]⟩ ++ y, by omega, rfl, by go_num, rfl, by rw [ByteArray.size_append, ByteArray.size_append]; show u.size + 1 + y.size ≤ _; omega, by show _ = _; rw [L_append, L_append]; exact unhide Hn, unhide Hb3⟩
    · obtain rfl : j = tv.length := by omega
      go_wp2_with fail
      go_ret
      refine ⟨u, rfl, ?_, unhide Hb⟩
      rw [unhide Hu, List.take_of_length_le (by unfold jrL; rw [List.length_map, ← unhide Hjr, List.length_map]; exact Nat.le_refl _)]; rfl

set_option maxHeartbeats 1000000 in
theorem dayJournal_any (B p : Nat) (s : Bk) (w : World) (h : Led w B p s) (ht : Tab w) :
    Calls Tryz.prog 31 #[.pointer (some ⟨p, 0, none⟩)] w fun e w' => ∃ u : ByteArray, e = .returned (.string u) ∧ L u = jrT s ∧ Below w.heap.size w w' := by
  have Hc := hide (ledJournal_any B p s w h ht)
  clear h ht
  go_enter Tryz.func31, Tryz.ntmps31
  go_wp2_with fail
  refine (unhide Hc).mono ?_
  rintro e w1 ⟨u, rfl, hu, hb⟩
  have Hu := hide hu
  have Hb := hide hb
  clear hu hb
  go_wp2_with fail
  go_ret
  exact ⟨u, rfl, unhide Hu, unhide Hb⟩

end Go.Proofs.YtdchbenfccofpabGreatDoor
namespace Go.Proofs.YtdchbenfccofpabGreatDoor
open Go.RowKit Db

theorem keptC {W W' : World} (h : Below W.heap.size W W') {a : Addr} {v : Value} (hc : W.cell? a = some v) : W'.cell? a = some v := by
  rw [h.cell (World.block_lt_of_cell? W a hc)]; exact hc

set_option maxRecDepth 100000 in
set_option maxHeartbeats 4000000 in
theorem recJournal_any (B p : Nat) (s : Bk) (w : World) (h : Rec w B p s) (ht : Tab w) :
    Calls Tryz.prog 45 #[.pointer (some ⟨p, 0, none⟩)] w fun e w' => ∃ u : ByteArray, e = .returned (.string u) ∧ L u = jrT s ∧ Below w.heap.size w w' := by
  obtain ⟨vp, vc, vt, tv, h⟩ := h
  obtain ⟨ao, cap, rfl⟩ := ownsRow_form h.txs.own
  have hlen : tv.length ≤ 64 := by have := h.good.posts; rw [← h.jr, List.length_map] at this; exact this
  have Hjr := hide h.jr
  have H := hide h
  have Ht := hide ht
  clear h ht
  go_enter Tryz.func45, Tryz.ntmps45
  go_wp2_with fail
  go_loopg [3, 4] tv.length (fun m vu i wr => ∃ j : Nat, ∃ u : ByteArray, j ≤ tv.length ∧ m = tv.length - j ∧ i = .int .i64 j ∧ vu = .string u ∧ u.size ≤ 230 * j ∧ Hid (L u = jn 59 ((jrL s).take j)) ∧ Hid (Below w.heap.size w wr))
  case atStart => exact ⟨0, ⟨#[]⟩, by omega, rfl, rfl, rfl, Nat.le_refl 0, rfl, Below.refl _ _⟩
  case round =>
    obtain ⟨j, u, hj, rfl, rfl, rfl, hus, Hu, Hb⟩ := hrel
    have hsz := (unhide Hb).size
    have H1 := hide ((unhide H).kept (unhide Hb))
    have c2 := (unhide H1).blk.cell 2
    simp only [List.getElem?_toArray, List.getElem?_cons_zero, List.getElem?_cons_succ] at c2
    by_cases hlt : j < tv.length
    · obtain ⟨⟨t, v⟩, htj⟩ : ∃ t, tv[j]? = some t := ⟨tv[j], List.getElem?_eq_getElem hlt⟩
      obtain ⟨g, _, e1, hg, hg'⟩ := ownsRow_some (unhide H1).txs.own (by omega)
      simp only [Value.slice.injEq, true_and] at e1
      obtain ⟨rfl, rfl⟩ := e1
      have h3 := three_get (fun x : Tn × Value => Value.int .i64 x.1.1) (fun x => .int .i64 x.1.2.1) (fun x => x.2) tv j (t, v) htj
      have d0 := ownsRow_cell (unhide H1).txs.own (j := j * 3) h3.1
      have d1 := ownsRow_cell (unhide H1).txs.own (j := j * 3 + 1) h3.2.1
      have d2 := ownsRow_cell (unhide H1).txs.own (j := j * 3 + 2) h3.2.2
      have hln := (unhide H1).txs.lns _ (List.mem_of_getElem? htj)
      have hst : s.txs[j]? = some t := by rw [← unhide Hjr, List.getElem?_map, htj]; rfl
      have hok := good_ok (unhide H).good (List.mem_of_getElem? hst)
      have Hst := hide (fun x => jr_step (x := x) hst (unhide Hu))
      obtain ⟨ti, td, ls⟩ := t
      obtain ⟨⟨i0, i1⟩, ⟨dd0, dd1⟩, h4, hlb⟩ := hok
      simp only at d0 d1 d2 hln i0 i1 dd0 dd1 h4 hlb
      obtain ⟨aol, capl, rfl⟩ := ownsRow_form hln
      have Hlb := hide hlb
      obtain ⟨W, hW⟩ : ∃ W, wr.alloc (.cells #[.int .i64 ti, .int .i64 td, .slice aol ls.length capl] 128) = W := ⟨_, rfl⟩
      obtain ⟨bx, hbx⟩ : ∃ bx, wr.heap.size = bx := ⟨_, rfl⟩
      have HB : Hid (Blk W bx #[.int .i64 ti, .int .i64 td, .slice aol ls.length capl] 128) := by rw [← hW, ← hbx]; exact Blk.new _ _ _
      have Hw : Hid (Below w.heap.size w W) := by rw [← hW]; exact (unhide Hb).alloc hsz _
      have HlW : Hid (LinesAt W (.slice aol ls.length capl) ls) := by rw [← hW]; exact (LinesAt.of_own hln).kept ((Below.refl _ _).alloc (Nat.le_refl _) _)
      have hWs : W.heap.size = bx + 1 := by rw [← hW, ← hbx]; simp
      have x0 := (unhide HB).cell 0
      have x1 := (unhide HB).cell 1
      simp only [List.getElem?_toArray, List.getElem?_cons_zero, List.getElem?_cons_succ] at x0 x1
      have HtW := hide ((unhide Ht).below (unhide Hw))
      -- the text ahead: a ; or nothing
      obtain ⟨u1, hu1, hz1, Hst1⟩ : ∃ u1 : ByteArray, (u1 = if j = 0 then u else u ++ ⟨#[59]⟩) ∧ u1.size ≤ 230 * j + 1 ∧ Hid (∀ x, x = txT (ti, td, ls) → L u1 ++ x = jn 59 ((jrL s).take (j + 1))) := by
        by_cases hj0 : j = 0
        · exact ⟨u, by rw [if_pos hj0], by omega, fun x hx => (unhide Hst x hx).1 hj0⟩
        · refine ⟨u ++ ⟨#[59]⟩, by rw [if_neg hj0], by rw [ByteArray.size_append]; show u.size + 1 ≤ _; omega, fun x hx => ?_⟩
          rw [L_append]
          exact (unhide Hst x hx).2 (by omega)
      clear h3 hln hst htj hlb Hst
      have hcase : (decide (0 < j) = true ∧ u1 = u ++ ⟨#[59]⟩) ∨ (decide (0 < j) = false ∧ u1 = u) := by
        by_cases hj0 : j = 0
        · rw [if_pos hj0] at hu1; exact .inr ⟨by simp; omega, hu1⟩
        · rw [if_neg hj0] at hu1; exact .inl ⟨by simp; omega, hu1⟩
      clear hu1
      rcases hcase with ⟨hbb0, hu1⟩ | ⟨hbb0, hu1⟩
      all_goals
        go_upto_region 8 with fail
        try rw [hW]
        try rw [hbx]
        try rw [← hu1]
        clear hu1
        go_region_held3 (fun w' => w'.cell? ⟨bx, 0, none⟩ = some (.int .i64 ti) ∧ w'.cell? ⟨bx, 1, none⟩ = some (.int .i64 td)) (first | go_keep | exact ⟨keptC hb3 (by simp [*]), keptC hb3 (by simp [*])⟩ | exact ⟨keptC hb2 (by simp [*]), keptC hb2 (by simp [*])⟩) (first | (go_at_call 38; first | (have hdone := hb2; refine (itoa_any _ _ (by omega) (by omega) (by exact ((unhide HtW).below (by exact (Below.refl _ _).drew)).below hb2)).mono ?_; rintro e w3 ⟨b, rfl, hb, hb3⟩; have hbz : b.size ≤ 21 := itoa_size (by omega) (by omega) hb; have hk3 : ¬ 9223372036854775807 < u1.size + a.size + 1 + b.size := (by omega)) | (refine (itoa_any _ _ (by omega) (by omega) (by exact (unhide HtW).below (by exact (Below.refl _ _).drew))).mono ?_; rintro e w2 ⟨a, rfl, ha, hb2⟩; have haz : a.size ≤ 21 := itoa_size (by omega) (by omega) ha; have hk1 : ¬ 9223372036854775807 < u1.size + a.size := (by omega); have hk2 : ¬ 9223372036854775807 < u1.size + a.size + 1 := (by omega))))
        have Hb3 := hide ((((Below.refl W.heap.size W).drew).then' (Nat.le_refl _) hb2).then' hb2.size hb3)
        have Ha := hide ha
        have Hbb := hide hb
        clear ha hb hb2 hb3 x0 x1
        go_wp2_with fail
        go_loopg [3, 6] ls.length (fun m vu i wx => ∃ q : Nat, ∃ y : ByteArray, q ≤ ls.length ∧ m = ls.length - q ∧ i = .int .i64 q ∧ vu = .string y ∧ y.size ≤ 230 * j + 44 + 44 * q ∧ Hid (L y = L u1 ++ prT ti td ++ lnT (ls.take q)) ∧ Hid (Below W.heap.size W wx))
        case atStart => exact ⟨0, u1 ++ a ++ ⟨#[58]⟩ ++ b, by omega, rfl, rfl, rfl, by rw [ByteArray.size_append, ByteArray.size_append, ByteArray.size_append]; show u1.size + a.size + 1 + b.size ≤ _; omega, by show _ = _; rw [L_append, L_append, L_append, unhide Ha, unhide Hbb]; simp [lnT, prT, L], unhide Hb3⟩
        case round =>
          obtain ⟨q, y, hq, rfl, rfl, rfl, hyz, Hy, Hb4⟩ := hrel
          have hsz4 := (unhide Hb4).size
          have HB4 := hide ((unhide HB).kept (unhide Hb4))
          have x2 := (unhide HB4).cell 2
          simp only [List.getElem?_toArray, List.getElem?_cons_zero, List.getElem?_cons_succ] at x2
          by_cases hlt2 : q < ls.length
          · obtain ⟨⟨la, lm⟩, hlj⟩ : ∃ l, ls[q]? = some l := ⟨ls[q], List.getElem?_eq_getElem hlt2⟩
            obtain ⟨_, bl, off, rfl, hbl, f1, f2⟩ := ((unhide HlW).kept (unhide Hb4)).line hlj
            have hbb := unhide Hlb _ (List.mem_of_getElem? hlj)
            have Hs2 := hide (lnT_step hlj)
            have Hf2 := hide (fun (wx : World) (hb : Below W.heap.size W wx) => (((unhide HlW).kept hb).line hlj))
            simp only at f1 f2 hbb Hs2
            clear hlj
            have HtX := hide ((unhide HtW).below (unhide Hb4))
            have hq4 : bl < wr.heap.size := hbl
            have hk0 : ¬ 9223372036854775807 < y.size + 1 := by omega
            go_upto_region 12 with fail
            go_region_held3 (fun w' => w'.cell? ⟨bx, 2, none⟩ = some (.slice (some ⟨bl, off, none⟩) ls.length capl) ∧ w'.cell? ⟨bl, off + q * 2, none⟩ = some (.int .i64 la) ∧ w'.cell? ⟨bl, off + q * 2 + 1, none⟩ = some (.int .i64 lm)) (first | go_keep | exact ⟨keptC hb6 (by simp [*]), keptC hb6 (by simp [*]), keptC hb6 (by simp [*])⟩ | exact ⟨keptC hb5 (by simp [*]), keptC hb5 (by simp [*]), keptC hb5 (by simp [*])⟩) (first | (go_at_call 38; first | (have hdone := hb5; refine (itoa_any _ _ (by omega) (by omega) (by exact ((unhide HtX).below (by exact (Below.refl _ _).drew)).below hb5)).mono ?_; rintro e w6 ⟨d, rfl, hd, hb6⟩; have hdz : d.size ≤ 21 := itoa_size (by omega) (by omega) hd; have hk3 : ¬ 9223372036854775807 < y.size + 1 + c.size + 1 + d.size := (by omega)) | (refine (itoa_any _ _ (by omega) (by omega) (by exact (unhide HtX).below (by exact (Below.refl _ _).drew))).mono ?_; rintro e w5 ⟨c, rfl, hc, hb5⟩; have hcz : c.size ≤ 21 := itoa_size (by omega) (by omega) hc; have hk1 : ¬ 9223372036854775807 < y.size + 1 + c.size := (by omega); have hk2 : ¬ 9223372036854775807 < y.size + 1 + c.size + 1 := (by omega))))
            have Hb6 := hide ((unhide Hb4).then (((Below.refl _ _).drew).then' (Nat.le_refl _) hb5 |>.then' hb5.size hb6))
            have Hc := hide hc
            have Hd := hide hd
            clear hc hd hb5 hb6 x2 f1 f2
            go_wp2_with fail
            go_roundg (ls.length - (q + 1))
            case measure => omega
            case rel => exact ⟨q + 1, y ++ ⟨#[44]⟩ ++ c ++ ⟨#[58]⟩ ++ d, by omega, rfl, by go_num, rfl, by rw [ByteArray.size_append, ByteArray.size_append, ByteArray.size_append, ByteArray.size_append]; show y.size + 1 + c.size + 1 + d.size ≤ _; omega, by show _ = _; rw [L_append, L_append, L_append, L_append, unhide Hy, unhide Hc, unhide Hd, unhide Hs2]; simp [prT, L], unhide Hb6⟩
          · obtain rfl : q = ls.length := by omega
            have Hfin : Hid (L y = jn 59 ((jrL s).take (j + 1))) := by
              show _ = _
              rw [unhide Hy, List.take_length, List.append_assoc]
              exact unhide Hst1 _ rfl
            go_wp2_with fail
            go_roundg (tv.length - (j + 1))
            case measure => omega
            case rel => exact ⟨j + 1, y, by omega, rfl, by go_num, rfl, by omega, unhide Hfin, (unhide Hw).then' (by omega) (unhide Hb4)⟩
    · obtain rfl : j = tv.length := by omega
      go_wp2_with fail
      go_ret
      refine ⟨u, rfl, ?_, unhide Hb⟩
      rw [unhide Hu, List.take_of_length_le (by unfold jrL; rw [List.length_map, ← unhide Hjr, List.length_map]; exact Nat.le_refl _)]; rfl


end Go.Proofs.YtdchbenfccofpabGreatDoor
namespace Go.Proofs.YtdchbenfccofpabGreatDoor
open Go.RowKit Db

set_option maxRecDepth 100000 in
set_option maxHeartbeats 2000000 in
theorem tells_any (B B' q p : Nat) (s : Bk) (w : World) (h : Rec w B q s) (hl : Led w B' p s) (ht : Tab w) :
    Calls Tryz.prog 28 #[.pointer (some ⟨q, 0, none⟩), .pointer (some ⟨p, 0, none⟩)] w fun e w' => e = .returned (.bool true) ∧ Below w.heap.size w w' := by
  have H := hide h
  have Ht := hide ht
  have Hl : Hid (∀ wx, Below w.heap.size w wx → Led wx B' p s) := by
    intro wx hb
    obtain ⟨va, vt, tv, dk, h1⟩ := hl
    exact ⟨_, _, _, _, h1.kept hb⟩
  clear h ht hl
  go_enter Tryz.func28, Tryz.ntmps28
  go_wp2_with fail
  refine (dayAccounts_any B' p s _ (unhide Hl _ (Below.refl _ _)) (unhide Ht)).mono ?_
  rintro e w1 ⟨u1, rfl, hu1, hb1⟩
  have Hb1 := hide hb1
  have Hu1 := hide hu1
  clear hb1 hu1
  go_wp2_with fail
  refine (dayJournal_any B' p s _ (unhide Hl _ (unhide Hb1)) ((unhide Ht).below (unhide Hb1))).mono ?_
  rintro e w2 ⟨u2, rfl, hu2, hb2⟩
  have Hb2 := hide ((unhide Hb1).then hb2)
  have Hu2 := hide hu2
  clear hb2 hu2
  go_wp2_with fail
  refine (recAccounts_any B q s _ ((unhide H).kept (unhide Hb2)) ((unhide Ht).below (unhide Hb2))).mono ?_
  rintro e w3 ⟨u3, rfl, hu3, hb3⟩
  obtain rfl : u3 = u1 := L_inj (hu3.trans (unhide Hu1).symm)
  have Hb3 := hide ((unhide Hb2).then hb3)
  clear hb3 hu3
  go_wp2_with fail
  refine (recJournal_any B q s _ ((unhide H).kept (unhide Hb3)) ((unhide Ht).below (unhide Hb3))).mono ?_
  rintro e w4 ⟨u4, rfl, hu4, hb4⟩
  obtain rfl : u4 = u2 := L_inj (hu4.trans (unhide Hu2).symm)
  have Hb4 := hide ((unhide Hb3).then hb4)
  clear hb4 hu4
  go_wp2_with fail
  go_ret
  exact ⟨rfl, unhide Hb4⟩

end Go.Proofs.YtdchbenfccofpabGreatDoor
namespace Go.Proofs.YtdchbenfccofpabGreatDoor
open Go.RowKit Db

theorem made_zero (m : Nat) : (madeCells #[.int .i64 0, .int .i64 0] m).toList = List.replicate m (.int .i64 0) := by
  apply List.ext_getElem
  · rw [Array.length_toList, size_madeCells, List.length_replicate]
  · intro i h1 h2
    rw [List.getElem_replicate, Array.getElem_toList]
    simp only [madeCells, Array.getElem_map, Array.getElem_range]
    rcases Nat.mod_two_eq_zero_or_one i with h | h
    · show (#[Value.int .i64 0, .int .i64 0])[i % 2]! = _
      rw [h]; rfl
    · show (#[Value.int .i64 0, .int .i64 0])[i % 2]! = _
      rw [h]; rfl

/-- The list that is handed over, in its block: the lines, and two of the caller's in its spare room. -/
def spare4 (a b c d : Int) : List Value := [.int .i64 a, .int .i64 b, .int .i64 c, .int .i64 d]
def hcells (ls : List Ln) : Array Value := (cellsL ls ++ spare4 77 0 0 77).toArray
theorem hcells_size (ls : List Ln) : (hcells ls).size = (ls.length + 2) * 2 := by simp [hcells, spare4, cellsL_length]; omega
theorem spare_get (ls : List Ln) (a b c d : Int) : (cellsL ls ++ spare4 a b c d).toArray[ls.length * 2]? = some (.int .i64 a) ∧ (cellsL ls ++ spare4 a b c d).toArray[ls.length * 2 + 1]? = some (.int .i64 b) ∧ (cellsL ls ++ spare4 a b c d).toArray[(ls.length + 1) * 2]? = some (.int .i64 c) ∧ (cellsL ls ++ spare4 a b c d).toArray[(ls.length + 1) * 2 + 1]? = some (.int .i64 d) := by
  have h := cellsL_length ls
  refine ⟨?_, ?_, ?_, ?_⟩ <;> (rw [List.getElem?_toArray, List.getElem?_append_right (by omega), h])
  · rw [show ls.length * 2 - ls.length * 2 = 0 by omega]; rfl
  · rw [show ls.length * 2 + 1 - ls.length * 2 = 1 by omega]; rfl
  · rw [show (ls.length + 1) * 2 - ls.length * 2 = 2 by omega]; rfl
  · rw [show (ls.length + 1) * 2 + 1 - ls.length * 2 = 3 by omega]; rfl
theorem spare_set (ls : List Ln) : ((((cellsL ls ++ spare4 0 0 0 0).toArray.setIfInBounds (ls.length * 2) (.int .i64 77)).setIfInBounds (ls.length * 2 + 1) (.int .i64 0)).setIfInBounds ((ls.length + 1) * 2) (.int .i64 0)).setIfInBounds ((ls.length + 1) * 2 + 1) (.int .i64 77) = hcells ls := by
  have h := cellsL_length ls
  apply Array.toList_inj.1
  simp only [Array.toList_setIfInBounds, hcells]
  have hs : ∀ (i : Nat) (l : List Value) (x : Value), (cellsL ls ++ l).set (ls.length * 2 + i) x = cellsL ls ++ l.set i x := by
    intro i l x
    rw [List.set_append_right _ _ (by omega), h, show ls.length * 2 + i - ls.length * 2 = i by omega]
  rw [show ls.length * 2 = ls.length * 2 + 0 from rfl, hs 0, show ls.length * 2 + 0 + 1 = ls.length * 2 + 1 from rfl, hs 1, show (ls.length + 1) * 2 = ls.length * 2 + 2 by omega, hs 2, show ls.length * 2 + 2 + 1 = ls.length * 2 + 3 from rfl, hs 3]
  rfl
theorem handed_copied {w w3 : World} {ls : List Ln} (hg3 : w3.heap[w.heap.size]? = some (.cells (cellsL ls ++ (madeCells #[.int .i64 0, .int .i64 0] ((ls.length + 2) * 2)).toList.drop (cellsL ls).length).toArray 84 (0, 0))) :
    Blk w3 w.heap.size (cellsL ls ++ spare4 0 0 0 0).toArray 84 := by
  unfold Blk
  rw [hg3, made_zero, cellsL_length, List.drop_replicate, show (ls.length + 2) * 2 - ls.length * 2 = 4 by omega]
  rfl
theorem LinesAt.of_handed {w : World} {g cap : Nat} {ls : List Ln} (h : Blk w g (hcells ls) 84) : LinesAt w (.slice (some ⟨g, 0, none⟩) ls.length cap) ls := by
  refine ⟨_, _, rfl, .inr ⟨g, 0, rfl, h.lt, fun i l hl => ?_⟩⟩
  have h2 := two_get (fun x : Ln => Value.int .i64 x.1) (fun x => .int .i64 x.2) ls i l hl
  have hi := (List.getElem?_eq_some_iff.1 hl).1
  have hlen := cellsL_length ls
  rw [Nat.zero_add, h.cell, h.cell]
  simp only [hcells, List.getElem?_toArray]
  rw [List.getElem?_append_left (by omega), List.getElem?_append_left (by omega)]
  exact h2

end Go.Proofs.YtdchbenfccofpabGreatDoor
namespace Go.Proofs.YtdchbenfccofpabGreatDoor
open Go.RowKit Db

theorem copied_blk {w w3 : World} {ls : List Ln} (hg3 : w3.heap[w.heap.size]? = some (.cells (cellsL ls ++ (madeCells #[.int .i64 0, .int .i64 0] (ls.length * 2)).toList.drop (cellsL ls).length).toArray 84 (0, 0))) :
    Blk w3 w.heap.size (cellsL ls).toArray 84 := by
  unfold Blk
  rw [hg3, made_zero, cellsL_length, List.drop_replicate, show ls.length * 2 - ls.length * 2 = 0 by omega]
  simp
theorem LinesAt.of_blk {w : World} {g cap : Nat} {ls : List Ln} (h : Blk w g (cellsL ls).toArray 84) : LinesAt w (.slice (some ⟨g, 0, none⟩) ls.length cap) ls := by
  refine ⟨_, _, rfl, .inr ⟨g, 0, rfl, h.lt, fun i l hl => ?_⟩⟩
  have h2 := two_get (fun x : Ln => Value.int .i64 x.1) (fun x => .int .i64 x.2) ls i l hl
  rw [Nat.zero_add, h.cell, h.cell]
  simp only [List.getElem?_toArray]
  exact h2

set_option maxRecDepth 100000 in
set_option maxHeartbeats 4000000 in
theorem copied_any (v : Value) (ls : List Ln) (w : World) (h : LinesAt w v ls) (hn : ls.length ≤ 8796093022000) :
    Calls Tryz.prog 48 #[v] w fun e w' => e = .returned (.slice (some ⟨w.heap.size, 0, none⟩) ls.length ls.length) ∧ Blk w' w.heap.size (cellsL ls).toArray 84 ∧ Below w.heap.size w w' := by
  obtain ⟨ao, cap, rfl, hr⟩ := h
  have hmk := run_make2 ls.length (by omega)
  have Hsrc : Hid (ls.length = 0 ∨ ∃ ad', ao = some ad' ∧ ∀ j u, (cellsL ls)[j]? = some u → (w.alloc (.cells (madeCells #[.int .i64 0, .int .i64 0] (ls.length * 2)) 84)).cell? (ad'.add j) = some u) := by
    rcases hr with rfl | ⟨b, off, rfl, hbl, hcs⟩
    · exact .inl rfl
    · refine .inr ⟨⟨b, off, none⟩, rfl, fun j u hju => ?_⟩
      rw [← lines_cells hcs j u hju, Addr.add_lit]
      exact ((Below.refl _ w).alloc (Nat.le_refl _) _).cell (p := ⟨b, off + j, none⟩) hbl
  clear hr
  go_enter Tryz.func48, Tryz.ntmps48
  go_upto_region 2 with fail
  go_upto_region 3 with (first
    | (refine wpList_copy2 rfl (.tmp 7) (.tmp 8) 42 42 rfl 84 Tryz.underlying42 (by kernel_rfl) w.heap.size ls.length ls.length ao ls.length cap rfl rfl (madeCells #[.int .i64 0, .int .i64 0] (ls.length * 2)) 84 (heap_alloc_new _ _) (cellsL ls) (cellsL_length ls) (Nat.le_refl _) (unhide Hsrc) (by rw [size_madeCells, cellsL_length]; exact Nat.le_refl _) (cellsL_one ls) ?_; intro w3 hg3 ho3 hs3 os3 tp3 ou3; have HB3 := hide (copied_blk hg3); have Hb3 : Hid (Below w.heap.size w w3) := ⟨os3, tp3, ou3, (by rw [hs3]; simp), (fun k hk => by rw [ho3 k (by omega)]; exact Below.heap_alloc _ _ _ hk)⟩; clear hg3 ho3 hs3 os3 tp3 ou3))
  go_wp2_with fail
  go_ret
  exact ⟨rfl, unhide HB3, unhide Hb3⟩

end Go.Proofs.YtdchbenfccofpabGreatDoor
namespace Go.Proofs.YtdchbenfccofpabGreatDoor
open Go.RowKit Db

/-- A number in six bytes, the lowest first, lifted by the greatest amount. -/
def nB (n : Int) : List UInt8 := (List.range 6).map fun i => UInt8.ofNat ((n + 1000000000000).toNat / 256 ^ i % 256)
theorem nB_length (n : Int) : (nB n).length = 6 := by simp [nB]
theorem nB_get (n : Int) {j : Nat} (h : j < 6) : (nB n)[j]? = some (UInt8.ofNat ((n + 1000000000000).toNat / 256 ^ j % 256)) := by
  unfold nB
  rw [List.getElem?_map, List.getElem?_range h]
  rfl
def cellsU (l : List UInt8) : List Value := l.map fun c => .int .u8 (c.toNat : Int)
theorem cellsU_take {n : Int} {j : Nat} (h : j < 6) : cellsU ((nB n).take (j + 1)) = cellsU ((nB n).take j) ++ [.int .u8 (((n + 1000000000000).toNat / 256 ^ j % 256 : Nat) : Int)] := by
  unfold cellsU
  rw [List.take_add_one, nB_get n h]
  simp
theorem conv_bytes (l : List UInt8) (W : World) (B : Nat) (v : Value) (h : W.ownsRow B 5 1 v l.length (cellsU l)) (hn : 0 < l.length) : (convert 64 9 v).run Tryz.prog W = .ok (.string ⟨l.toArray⟩) W := by
  obtain ⟨g, cap, rfl, hg, hg'⟩ := ownsRow_some h hn
  exact run_convert_bytes_back (P := Tryz.prog) W 64 9 5 ⟨g, 0, none⟩ cap l Tryz.underlying64 Tryz.underlying5 Tryz.underlying9 (fun j hj => by
    rw [Addr.add_lit, Nat.zero_add]
    exact ownsRow_cell h (j := j) (by simp [cellsU, hj]))
theorem info_u8 : (Tryz.prog.info? 5).map (fun i => (i.zero, i.size, i.bytes)) = some (some (.int .u8 0), 1, 1) := by kernel_rfl

set_option maxRecDepth 100000 in
set_option maxHeartbeats 2000000 in
theorem numberText_any (n : Int) (w : World) (h0 : -1000000000000 ≤ n) (h1 : n ≤ 1000000000000) :
    Calls Tryz.prog 107 #[.int .i64 n] w fun e w' => e = .returned (.string ⟨(nB n).toArray⟩) ∧ Below w.heap.size w w' := by
  obtain ⟨ii, hi, hz0, hz1, hz2⟩ := info_parts info_u8
  obtain ⟨x, hx⟩ : ∃ x : Nat, n + 1000000000000 = (x : Int) := ⟨(n + 1000000000000).toNat, by omega⟩
  have hxn : (n + 1000000000000).toNat = x := by omega
  have hxl : x ≤ 2000000000000 := by omega
  have Hcut := hide (fun (j : Nat) (h : j < 6) => cellsU_take (n := n) h)
  rw [hxn] at Hcut
  go_enter Tryz.func107, Tryz.ntmps107
  go_wp2_with fail
  go_loopg [3, 4, 5] 6 (fun m vr vb vi wr => ∃ j y : Nat, j ≤ 6 ∧ m = 6 - j ∧ vi = .int .i64 j ∧ vr = .int .i64 (y : Int) ∧ y ≤ 2000000000000 ∧ Hid (y = x / 256 ^ j) ∧ Hid (wr.ownsRow w.heap.size 5 1 vb j (cellsU ((nB n).take j))) ∧ Hid (Below w.heap.size w wr))
  case atStart => exact ⟨0, x, by omega, rfl, rfl, by rw [← hx], hxl, by simp [Hid], World.ownsRow_nil _ _ _ _, Below.refl _ _⟩
  case round =>
    obtain ⟨j, y, hj, rfl, rfl, rfl, hyl, Hy, Ho, Hb⟩ := hrel
    have hsz := (unhide Hb).size
    by_cases hlt : j < 6
    · have Hc := hide (unhide Hcut j hlt)
      have hnn : (0 : Int) ≤ (y : Int) := by omega
      obtain ⟨ao, cap, rfl⟩ := ownsRow_form (unhide Ho)
      go_wp2_with (first
        | (at_builtin; refine wpList_append_own _ rfl (.tmp 12) (.tmp 16) 64 rfl w.heap.size 5 ii (.int .u8 0) 1 1 Tryz.underlying64 hi hz0 hz1 hz2 rfl (by decide) _ j _ rfl ((unhide Ho).alloc _) ⟨wr.heap.size, 0, none⟩ 1 1 [.int .u8 ((y % 256 : Nat) : Int)] rfl rfl (new1 _ _ (by simp) _ _) (fun x hx => by simp at hx; subst hx; rfl) (by unfold maxLen; omega) (by omega) (by simp; omega) ?_; intro vq' w5 hown5 hgr5 _; obtain ⟨gf, cf, rfl, hgf, hgf'⟩ := ownsRow_some hown5 (Nat.succ_pos _); have Hown5 := hide hown5; have Hgr5 := hide hgr5; clear hown5 hgr5))
      go_roundg (6 - (j + 1))
      case measure => omega
      case rel =>
        refine ⟨j + 1, y / 256, by omega, rfl, by go_num, by simp, by omega, ?_, ?_, ?_⟩
        · show _ = _
          rw [unhide Hy, Nat.div_div_eq_div_mul, Nat.pow_succ]
        · show World.ownsRow _ _ _ _ _ _ _
          rw [unhide Hc, ← unhide Hy]
          exact unhide Hown5
        · exact ((unhide Hb).alloc hsz _).grown (unhide Hgr5) (by simp; omega) (fun k hk => (ownsRow_tg (unhide Ho) k hk).1)
    · obtain rfl : j = 6 := by omega
      have hcv := conv_bytes (nB n) wr w.heap.size _ (by rw [nB_length]; have := unhide Ho; rw [List.take_of_length_le (by rw [nB_length]; omega)] at this; exact this) (by rw [nB_length]; omega)
      go_wp2_with fail
      go_ret
      exact ⟨rfl, unhide Hb⟩

end Go.Proofs.YtdchbenfccofpabGreatDoor
namespace Go.Proofs.YtdchbenfccofpabGreatDoor
open Go.RowKit Db

/-- A record's bytes, and up to the end of the sector noughts. -/
def secH (k : Nat) (n d : Int) (m : Nat) : List UInt8 := [UInt8.ofNat k, UInt8.ofNat m] ++ nB n ++ nB d
def lnB (ls : List Ln) : List UInt8 := ls.flatMap fun l => nB l.1 ++ nB l.2
def secP (k : Nat) (n d : Int) (ls : List Ln) : List UInt8 := secH k n d ls.length ++ lnB ls
def secL (k : Nat) (n d : Int) (ls : List Ln) : List UInt8 := secP k n d ls ++ List.replicate (64 - (secP k n d ls).length) 0
def secB (k : Nat) (n d : Int) (ls : List Ln) : ByteArray := ⟨(secL k n d ls).toArray⟩
def AmtOk (n : Int) : Prop := -1000000000000 ≤ n ∧ n ≤ 1000000000000
theorem lnB_length (ls : List Ln) : (lnB ls).length = 12 * ls.length := by
  induction ls with
  | nil => rfl
  | cons l r ih => unfold lnB at ih ⊢; simp [nB_length] at ih ⊢; omega
theorem secH_length (k : Nat) (n d : Int) (m : Nat) : (secH k n d m).length = 14 := by simp [secH, nB_length]
theorem secP_length (k : Nat) (n d : Int) (ls : List Ln) : (secP k n d ls).length = 14 + 12 * ls.length := by simp [secP, secH_length, lnB_length]
theorem secL_length (k : Nat) (n d : Int) (ls : List Ln) (h : ls.length ≤ 4) : (secL k n d ls).length = 64 := by
  unfold secL; rw [List.length_append, List.length_replicate, secP_length]; omega
theorem lnB_take {ls : List Ln} {j : Nat} {l : Ln} (h : ls[j]? = some l) : lnB (ls.take (j + 1)) = lnB (ls.take j) ++ nB l.1 ++ nB l.2 := by
  unfold lnB; rw [List.take_add_one, h]; simp
theorem L_ext {u v : ByteArray} (h : L u = L v) : u = v := by
  cases u; cases v; unfold L at h; simp at h; rw [h]

theorem number_any (n : Int) (w : World) (h : AmtOk n) :
    Calls Tryz.prog 107 #[.int .i64 n] w fun e w' => ∃ u : ByteArray, e = .returned (.string u) ∧ L u = nB n ∧ u.size = 6 ∧ Below w.heap.size w w' := by
  refine (numberText_any n w h.1 h.2).mono ?_
  rintro e w1 ⟨rfl, hb⟩
  exact ⟨_, rfl, L_list _, by rw [size_L, L_list, nB_length], hb⟩

set_option maxRecDepth 100000 in
set_option maxHeartbeats 4000000 in
theorem sector_any (k : Nat) (n d : Int) (v : Value) (ls : List Ln) (w : World) (hk : k < 256) (hn : AmtOk n) (hd : AmtOk d) (hl : LinesAt w v ls) (h4 : ls.length ≤ 4) (hls : ∀ l ∈ ls, AmtOk l.1 ∧ AmtOk l.2) :
    Calls Tryz.prog 86 #[.agg #[.int .u8 (k : Int), .int .i64 n, .int .i64 d, v]] w fun e w' => e = .returned (.string (secB k n d ls)) ∧ Below w.heap.size w w' := by
  obtain ⟨ao, cap, rfl⟩ := hl.form
  obtain ⟨W, hW⟩ : ∃ W, w.alloc (.cells #[.int .u8 (k : Int), .int .i64 n, .int .i64 d, .slice ao ls.length cap] 101) = W := ⟨_, rfl⟩
  have hcv : (convert 64 9 (.slice (some ⟨w.heap.size + 1, 0, none⟩) 2 2)).run Tryz.prog (W.alloc (.cells #[.int .u8 (k : Int), .int .u8 (ls.length : Int)] 5)) = .ok (.string ⟨#[UInt8.ofNat k, UInt8.ofNat ls.length]⟩) (W.alloc (.cells #[.int .u8 (k : Int), .int .u8 (ls.length : Int)] 5)) := by
    have hs : W.heap.size = w.heap.size + 1 := by rw [← hW]; simp
    have hb := Blk.new W #[.int .u8 (k : Int), .int .u8 (ls.length : Int)] 5
    rw [hs] at hb
    exact run_convert_bytes_back (P := Tryz.prog) _ 64 9 5 ⟨w.heap.size + 1, 0, none⟩ 2 [UInt8.ofNat k, UInt8.ofNat ls.length] Tryz.underlying64 Tryz.underlying5 Tryz.underlying9 (fun j hj => by
      rw [Addr.add_lit, Nat.zero_add, hb.cell]
      rcases j with _ | _ | j
      · simp; omega
      · simp; omega
      · simp at hj; omega)
  have HX : Hid (Blk W w.heap.size #[.int .u8 (k : Int), .int .i64 n, .int .i64 d, .slice ao ls.length cap] 101) := by rw [← hW]; exact Blk.new _ _ _
  have Hb0 : Hid (Below w.heap.size w W) := by rw [← hW]; exact (Below.refl _ _).alloc (Nat.le_refl _) _
  have hWs : W.heap.size = w.heap.size + 1 := by rw [← hW]; simp
  have Hl := hide hl
  have Hls := hide hls
  have Hn := hide hn
  have Hd := hide hd
  have hwr : IntKind.u8.wrap (ls.length : Int) = (ls.length : Int) := by rw [IntKind.wrap_u8]; omega
  have x0 := (unhide HX).cell 0
  have x1 := (unhide HX).cell 1
  have x3 := (unhide HX).cell 3
  simp only [List.getElem?_toArray, List.getElem?_cons_zero, List.getElem?_cons_succ] at x0 x1 x3
  clear hl hls hn hd
  go_enter Tryz.func86, Tryz.ntmps86
  go_wp2_with fail
  try rw [hW]
  refine (number_any n _ (unhide Hn)).mono ?_
  rintro e w1 ⟨t1, rfl, ht1, hs1, hb1⟩
  have HX1 := hide (((unhide HX).alloc _).kept hb1)
  have Hb1 : Hid (Below w.heap.size w w1) := ((unhide Hb0).alloc (by omega) _).then' (by simp; omega) hb1
  have Ht1 := hide ht1
  have x2 := (unhide HX1).cell 2
  simp only [List.getElem?_toArray, List.getElem?_cons_zero, List.getElem?_cons_succ] at x2
  clear hb1 ht1 x0 x1 x3 hcv
  have hsz1 : (⟨#[UInt8.ofNat k, UInt8.ofNat ls.length]⟩ : ByteArray).size = 2 := rfl
  go_wp2_with fail
  refine (number_any d _ (unhide Hd)).mono ?_
  rintro e w2 ⟨t2, rfl, ht2, hs2, hb2⟩
  have HX2 := hide ((unhide HX1).kept hb2)
  have Hb2 : Hid (Below w.heap.size w w2) := (unhide Hb1).then hb2
  obtain ⟨u0, hu0⟩ : ∃ u0, (⟨#[UInt8.ofNat k, UInt8.ofNat ls.length]⟩ : ByteArray) ++ t1 ++ t2 = u0 := ⟨_, rfl⟩
  have Hu0 : Hid (L u0 = secH k n d ls.length ∧ u0.size = 14) := by
    have hL : L u0 = secH k n d ls.length := by rw [← hu0, L_append, L_append, unhide Ht1, ht2]; rfl
    exact ⟨hL, by rw [size_L, hL, secH_length]⟩
  have hs12 : ((⟨#[UInt8.ofNat k, UInt8.ofNat ls.length]⟩ : ByteArray) ++ t1).size = 8 := by rw [ByteArray.size_append]; omega
  have x3 := (unhide HX2).cell 3
  simp only [List.getElem?_toArray, List.getElem?_cons_zero, List.getElem?_cons_succ] at x3
  clear hb2 ht2 x2
  go_wp2_with fail
  try rw [hu0]
  go_loopg [3, 27] ls.length (fun m vt vi wr => ∃ j : Nat, ∃ u : ByteArray, j ≤ ls.length ∧ m = ls.length - j ∧ vi = .int .i64 j ∧ vt = .string u ∧ u.size = 14 + 12 * j ∧ Hid (L u = secH k n d ls.length ++ lnB (ls.take j)) ∧ Hid (Below w.heap.size w wr))
  case atStart => exact ⟨0, u0, by omega, rfl, rfl, rfl, (unhide Hu0).2, by show _ = _; rw [(unhide Hu0).1]; simp [lnB], unhide Hb2⟩
  case round =>
    obtain ⟨j, u, hj, rfl, rfl, rfl, hus, Hu, Hb⟩ := hrel
    have hsz := (unhide Hb).size
    by_cases hlt : j < ls.length
    · obtain ⟨⟨la, lm⟩, hlj⟩ : ∃ l, ls[j]? = some l := ⟨ls[j], List.getElem?_eq_getElem hlt⟩
      obtain ⟨_, b, off, rfl, hbl, d1, d2⟩ := ((unhide Hl).kept (unhide Hb)).line hlj
      have Hok := hide (unhide Hls _ (List.mem_of_getElem? hlj))
      have Hst := hide (lnB_take hlj)
      simp only at d1 d2 Hst Hok
      clear hlj
      go_wp2_with fail
      refine (number_any la _ (unhide Hok).1).mono ?_
      rintro e w3 ⟨t3, rfl, ht3, hs3, hb3⟩
      have Hb3 : Hid (Below w.heap.size w w3) := ((unhide Hb).alloc hsz _).then' (by simp; omega) hb3
      have k1 := hb3.cell (p := ⟨wr.heap.size, 1, none⟩) (by simp)
      simp at k1
      have Ht3 := hide ht3
      clear hb3 ht3
      go_wp2_with fail
      refine (number_any lm _ (unhide Hok).2).mono ?_
      rintro e w4 ⟨t4, rfl, ht4, hs4, hb4⟩
      have Hb4 : Hid (Below w.heap.size w w4) := (unhide Hb3).then hb4
      have Ht4 := hide ht4
      clear hb4 ht4
      have hs34 : (u ++ t3).size = 20 + 12 * j := by rw [ByteArray.size_append]; omega
      go_wp2_with fail
      go_roundg (ls.length - (j + 1))
      case measure => omega
      case rel => exact ⟨j + 1, u ++ t3 ++ t4, by omega, rfl, by go_num, rfl, by rw [ByteArray.size_append]; omega, by show _ = _; rw [L_append, L_append, unhide Hu, unhide Ht3, unhide Ht4, unhide Hst]; simp, unhide Hb4⟩
    · obtain rfl : j = ls.length := by omega
      have Hp : Hid (L u = secP k n d ls) := by have := unhide Hu; rw [List.take_length] at this; exact this
      go_wp2_with fail
      go_loopg [3] (64 - u.size) (fun m vt wr => ∃ j : Nat, ∃ u : ByteArray, u.size ≤ 64 ∧ m = 64 - u.size ∧ vt = .string u ∧ Hid (L u = secP k n d ls ++ List.replicate j 0) ∧ Hid (Below w.heap.size w wr))
      case atStart => exact ⟨0, u, by omega, rfl, rfl, by show _ = _; rw [unhide Hp]; simp, unhide Hb⟩
      case round =>
        clear Hb Hu Hp hus
        obtain ⟨j, u, hus, rfl, rfl, Hu, Hb⟩ := hrel
        by_cases hlt : u.size < 64
        · have hdc : decide ((u.size : Int) < 64) = true := by simp; omega
          go_wp2_with fail
          go_roundg (64 - (u.size + 1))
          case measure => omega
          case rel => exact ⟨j + 1, u ++ ⟨#[0]⟩, by rw [ByteArray.size_append]; show u.size + 1 ≤ 64; omega, by rw [ByteArray.size_append]; rfl, rfl, by show _ = _; rw [L_append, unhide Hu, List.replicate_succ', ← List.append_assoc]; rfl, unhide Hb⟩
        · have hdc : decide ((u.size : Int) < 64) = false := by simp; omega
          have Hfin : Hid (u = secB k n d ls) := by
            have h1 : u.size = (secP k n d ls).length + j := by rw [size_L, unhide Hu]; simp
            have h2 : L u = secL k n d ls := by
              rw [unhide Hu]
              unfold secL
              rw [show 64 - (secP k n d ls).length = j by omega]
            have h3 : L (secB k n d ls) = secL k n d ls := by unfold secB; exact L_list _
            exact L_ext (by rw [h2, h3])
          go_wp2_with fail
          go_ret
          exact ⟨congrArg (fun u => Ending.returned (.string u)) (unhide Hfin), unhide Hb⟩

end Go.Proofs.YtdchbenfccofpabGreatDoor
namespace Go.Proofs.YtdchbenfccofpabGreatDoor
open Go.RowKit Db

theorem info_write : (Tryz.prog.info? 96).map (fun i => (i.zero, i.size, i.bytes)) = some (some (.agg #[.int .i64 0, .string ⟨#[]⟩]), 2, 24) := by kernel_rfl
/-- What is on the disk's list behind a call: a record and a flush more, or nothing. -/
def dkU (yes : Bool) (u : Nat) : Nat := if yes then u + 1 else u
def dkW (yes : Bool) (u : Nat) (x : ByteArray) (ws : List Wr) : List Wr := if yes then ws ++ [((u : Int), x), (-1, ⟨#[]⟩)] else ws

set_option maxRecDepth 100000 in
set_option maxHeartbeats 4000000 in
theorem lay_any (B p u : Nat) (va vt vw : Value) (ws : List Wr) (k : Nat) (n d : Int) (v : Value) (ls : List Ln) (w : World) (hblk : Blk w p #[va, vt, .int .i64 (u : Int), vw] 82) (hB : B ≤ p) (how : w.ownsRow B 96 2 vw ws.length (cellsW ws)) (hwl : ws.length ≤ 2 * u) (hu : u ≤ 95)
    (hk : k < 256) (hn : AmtOk n) (hd : AmtOk d) (hl : LinesAt w v ls) (h4 : ls.length ≤ 4) (hls : ∀ l ∈ ls, AmtOk l.1 ∧ AmtOk l.2) :
    Calls Tryz.prog 67 #[.pointer (some ⟨p, 2, none⟩), .agg #[.int .u8 (k : Int), .int .i64 n, .int .i64 d, v]] w fun e w' => e = .returned (.tuple #[]) ∧ (∃ vw', Blk w' p #[va, vt, .int .i64 ((u + 1 : Nat) : Int), vw'] 82 ∧ w'.ownsRow B 96 2 vw' (ws.length + 1 + 1) (cellsW (ws ++ [((u : Int), secB k n d ls), (-1, ⟨#[]⟩)]))) ∧ FrT B [82, 96] w w' := by
  obtain ⟨ii, hi, hz0, hz1, hz2⟩ := info_parts info_write
  obtain ⟨ao, cap, rfl⟩ := hl.form
  obtain ⟨aw, cw, rfl⟩ := ownsRow_form how
  obtain ⟨bx, hbx⟩ : ∃ bx, w.heap.size = bx := ⟨_, rfl⟩
  obtain ⟨W, hW⟩ : ∃ W, w.alloc (.cells #[.int .u8 (k : Int), .int .i64 n, .int .i64 d, .slice ao ls.length cap] 101) = W := ⟨_, rfl⟩
  have HX : Hid (Blk W bx #[.int .u8 (k : Int), .int .i64 n, .int .i64 d, .slice ao ls.length cap] 101) := by rw [← hW, ← hbx]; exact Blk.new _ _ _
  have Hb0 : Hid (Below w.heap.size w W) := by rw [← hW]; exact (Below.refl _ _).alloc (Nat.le_refl _) _
  have Hsec := hide (sector_any k n d _ ls W hk hn hd (hl.kept (unhide Hb0)) h4 hls)
  have HK0 := hide (hblk.kept (unhide Hb0))
  have HO0 := hide (ownsRow_below how (unhide Hb0))
  have x0 := (unhide HX).cell 0
  have x1 := (unhide HX).cell 1
  have x2 := (unhide HX).cell 2
  have x3 := (unhide HX).cell 3
  simp only [List.getElem?_toArray, List.getElem?_cons_zero, List.getElem?_cons_succ] at x0 x1 x2 x3
  obtain ⟨sx, hsx⟩ : ∃ sx, secB k n d ls = sx := ⟨_, rfl⟩
  rw [hsx] at Hsec ⊢
  clear hblk how hn hd hl hls hsx hk
  go_enter Tryz.func67, Tryz.ntmps67
  go_wp2_with fail
  try rw [hW]
  try rw [hbx]
  clear hW hbx
  refine (unhide Hsec).mono ?_
  rintro e w1 ⟨rfl, hb1⟩
  have HK1 := hide ((unhide HK0).kept hb1)
  have HO1 := hide (ownsRow_below (unhide HO0) hb1)
  have HF1 : Hid (FrT B [82, 96] w w1) := (FrT.of_below (unhide Hb0)).then hb1
  have c2 := (unhide HK1).cell 2
  have c3 := (unhide HK1).cell 3
  have z3 := (unhide HK1).frozen 3
  have lq := (unhide HK1).lt
  simp only [List.getElem?_toArray, List.getElem?_cons_zero, List.getElem?_cons_succ] at c2 c3
  have hBw : B ≤ w1.heap.size := by omega
  have Hnb : Hid (Blk (w1.alloc (.cells #[.int .i64 (u : Int), .string sx] 96)) w1.heap.size #[.int .i64 (u : Int), .string sx] 96) := Blk.new _ _ _
  have hne1 : w1.heap.size ≠ p := by omega
  clear hb1 x0 x1 x2 x3
  go_upto_region 2 with fail
  go_region_law (refine step_append_lies _ rfl (.tmp 11) (.tmp 18) 47 rfl B 96 ii (.agg #[.int .i64 0, .string ⟨#[]⟩]) 2 24 Tryz.underlying47 hi hz0 hz1 hz2 rfl (by decide) (.slice aw ws.length cw) ws.length _ (by simp [Act.eval]) (by first | exact ((unhide HO1).alloc _).drew | exact ((unhide HO1).alloc _)) ⟨w1.heap.size, 0, none⟩ 1 1 [.int .i64 (u : Int), .string sx] (by simp [Act.eval]) rfl (World.news_of_block (by exact unhide Hnb)) (fun x hx => by simp at hx; rcases hx with rfl | rfl <;> rfl) (by decide) (by unfold maxLen; omega) (by omega) (by simp <;> omega) (w1.heap.size + 1) (by simp) ?_; intro gf cf w5 hown5 hgr5 hat5 hlt5; have hblk5 := Blk.grown (cs := #[va, vt, .int .i64 (u : Int), .slice aw ws.length cw]) (T := 82) (b := p) (by exact ((unhide HK1).alloc _)) hgr5 (blk_own_ne (unhide HK1) (unhide HO1) (by decide)); have c5 := hblk5.cell 3; have z5 := hblk5.frozen 3; have e5 := hblk5.cell 2; have y5 := hblk5.frozen 2; have l5 := hblk5.lt; simp only [List.getElem?_toArray, List.getElem?_cons_zero, List.getElem?_cons_succ] at c5 e5; have Hblk5 := hide hblk5; have Hown5 := hide hown5; have Hgr5 := hide hgr5; clear hblk5 hown5 hgr5 hat5)
  all_goals
    have Hf1 : Hid (FrT B [96] w1 w5) := ((((FrT.refl _ _ w1).alloc _).drew).grown (unhide Hgr5) (T := 96) (by simp) (fun j hj => ⟨(ownsRow_tg (unhide HO1) j hj).1, tg_alloc (ownsRow_tg (unhide HO1) j hj).2 _⟩))
    have Hown6 := hide (fun v => ownsRow_frT (unhide Hown5) ((FrT.refl B [82] w5).setCell (p := ⟨p, 3, none⟩) (T := 82) (by simp) (unhide Hblk5).tg hB v) (by decide))
    have Hblk6 := hide (fun v => (unhide Hblk5).set 3 v)
    go_wp2_with (first
      | (at_builtin; refine wpList_append_own _ rfl (.tmp 26) (.tmp 28) 47 rfl B 96 ii (.agg #[.int .i64 0, .string ⟨#[]⟩]) 2 24 Tryz.underlying47 hi hz0 hz1 hz2 rfl (by decide) (.slice (some ⟨gf, 0, none⟩) (ws.length + 1) cf) (ws.length + 1) _ rfl ((unhide Hown6 _).alloc _) ⟨w5.heap.size, 0, none⟩ 1 1 [.int .i64 (-1), .string ⟨#[]⟩] rfl rfl (new2 _ _ (by simp [World.setCell]) _ _ _) (fun x hx => by simp at hx; rcases hx with rfl | rfl <;> rfl) (by unfold maxLen; omega) (by omega) (by simp [World.setCell]; omega) ?_; intro vq' w6 hown6 hgr6 _; obtain ⟨gh, ch, rfl, hgh, hgh'⟩ := ownsRow_some hown6 (Nat.succ_pos _); have hblk6 := ((unhide Hblk6 _).alloc _).grown hgr6 (blk_own_ne (unhide Hblk6 vt) (unhide Hown6 vt) (by decide)); simp only [List.setIfInBounds_toArray, List.set_cons_zero, List.set_cons_succ] at hblk6; have c6 := hblk6.cell 3; have z6 := hblk6.frozen 3; have l6 := hblk6.lt; have e6 := hblk6.cell 2; have y6 := hblk6.frozen 2; simp only [List.getElem?_toArray, List.getElem?_cons_zero, List.getElem?_cons_succ] at c6 e6; have Hbl6 := hide hblk6; have Hown6' := hide hown6; have Hgr6 := hide hgr6; clear hblk6 hown6 hgr6))
    go_end0
    have g1 := (FrT.refl B [82, 96] w5).setCell (p := ⟨p, 3, none⟩) (T := 82) (by simp) (unhide Hblk5).tg hB (.slice (some ⟨gf, 0, none⟩) (ws.length + 1) cf)
    have g2 := (g1.alloc (.cells #[.int .i64 (-1), .string ⟨#[]⟩] 96)).grown (unhide Hgr6) (T := 96) (by simp) (fun j hj => ⟨(ownsRow_tg (unhide Hown6 vt) j hj).1, tg_alloc (ownsRow_tg (unhide Hown6 (.slice (some ⟨gf, 0, none⟩) (ws.length + 1) cf)) j hj).2 _⟩)
    have b7 := (unhide Hbl6).set 3 (.slice (some ⟨gh, 0, none⟩) (ws.length + 1 + 1) ch)
    have b8 := b7.set 2 (.int .i64 ((u + 1 : Nat) : Int))
    simp only [List.setIfInBounds_toArray, List.set_cons_zero, List.set_cons_succ] at b8
    have g3 := (g2.setCell (p := ⟨p, 3, none⟩) (T := 82) (by simp) (unhide Hbl6).tg hB (.slice (some ⟨gh, 0, none⟩) (ws.length + 1 + 1) ch)).setCell (p := ⟨p, 2, none⟩) (T := 82) (by simp) b7.tg hB (.int .i64 ((u + 1 : Nat) : Int))
    have g4 := ((FrT.refl B [82] w6).setCell (p := ⟨p, 3, none⟩) (T := 82) (by simp) (unhide Hbl6).tg hB (.slice (some ⟨gh, 0, none⟩) (ws.length + 1 + 1) ch)).setCell (p := ⟨p, 2, none⟩) (T := 82) (by simp) b7.tg hB (.int .i64 ((u + 1 : Nat) : Int))
    refine ⟨rfl, ⟨_, b8, ?_⟩, ((unhide HF1).trans ((unhide Hf1).mono (by simp))).trans g3⟩
    have := ownsRow_frT (unhide Hown6') g4 (by decide)
    simpa [cellsW] using this

end Go.Proofs.YtdchbenfccofpabGreatDoor
namespace Go.Proofs.YtdchbenfccofpabGreatDoor
open Go.RowKit Db

theorem opn_cnt {s : Bk} (hg : BkGood s) (a : Int) : ((opn s a).2.1 = 0 ∧ 0 ≤ a ∧ a < 16 ∧ cnt (opn s a).2.2 = cnt s + 1) ∨ (¬ (opn s a).2.1 = 0 ∧ (opn s a).2.2 = s) := by
  have h1 := hg.few
  unfold opn
  repeat' split
  all_goals first | exact .inr ⟨by simp, rfl⟩ | skip
  rename_i h2 _ _
  left
  unfold ther at h2
  simp only [Bool.not_eq_false, Bool.and_eq_true, decide_eq_true_eq] at h2
  exact ⟨rfl, by omega, by omega, cnt_more hg rfl⟩
theorem cls_cnt {s : Bk} (hg : BkGood s) (a : Int) : ((cls s a).1 = 0 ∧ 0 ≤ a ∧ a < 16 ∧ cnt (cls s a).2 = cnt s + 1) ∨ (¬ (cls s a).1 = 0 ∧ (cls s a).2 = s) := by
  have h1 := hg.few
  unfold cls
  repeat' split
  all_goals first | exact .inr ⟨by simp, rfl⟩ | skip
  rename_i h2 h3 _ _
  left
  have h4 : ther s a = true := by cases hx : ther s a with | true => rfl | false => exact absurd (.inl hx) h2
  unfold ther at h4
  simp only [Bool.and_eq_true, decide_eq_true_eq] at h4
  obtain ⟨c, hc⟩ := acs_get (s := s) (k := a.toNat) (by omega)
  have h5 : clsd s a = c.2 := by unfold clsd; simp [hc]
  have h6 : s.acs.getD a.toNat (0, false) = c := by simp [hc]
  refine ⟨rfl, by omega, by omega, ?_⟩
  simp only [h6]
  rw [cnt_shut hc, if_neg (by rw [← h5]; exact h3)]
theorem pst_cnt {s : Bk} (hg : BkGood s) (id day : Int) (ls : List Ln) : (isN s id day ls = true ∧ (pst s id day ls).1 = 0 ∧ 0 ≤ id ∧ id ≤ 9999 ∧ 0 ≤ day ∧ day ≤ 999 ∧ ls.length ≤ 4 ∧ (∀ l ∈ ls, 0 < l.1 ∧ l.1 < s.acs.length ∧ -1000000000000 ≤ l.2 ∧ l.2 ≤ 1000000000000) ∧ (pst s id day ls).2 = { s with txs := s.txs ++ [(id, day, ls)] } ∧ cnt (pst s id day ls).2 = cnt s + 1) ∨ (isN s id day ls = false ∧ (pst s id day ls).2 = s) := by
  by_cases hid : id < 0 ∨ 9999 < id
  · have := pst_id (s := s) (day := day) (ls := ls) hid
    exact .inr ⟨isN_no (by rw [this]), by rw [this]⟩
  cases hfd : findT id s.txs with
  | some t =>
    have := pst_old (day := day) (ls := ls) hid hfd
    exact .inr ⟨isN_no (by rw [this]), by rw [this]⟩
  | none =>
    by_cases hd : day < 0 ∨ 999 < day
    · have := pst_day (ls := ls) hid hfd hd
      exact .inr ⟨isN_no (by rw [this]), by rw [this]⟩
    by_cases hlz : lnsE s ls = 0
    · by_cases h64 : 64 ≤ s.txs.length
      · have := pst_full hid hfd hd hlz h64
        exact .inr ⟨isN_no (by rw [this]), by rw [this]⟩
      · have hok := pst_ok hid hfd hd hlz h64
        have hl := lnsE_ok hg hlz
        exact .inl ⟨isN_yes (by rw [hok]), by rw [hok], by omega, by omega, by omega, by omega, hl.1, hl.2, by rw [hok], by rw [hok]; exact cnt_post⟩
    · have := pst_bad hid hfd hd hlz
      exact .inr ⟨isN_no (by rw [this]), by rw [this]⟩

theorem LedAt.laid {w w2 : World} {B p u : Nat} {va vt vw vw' : Value} {tv : List (Tn × Value)} {ws : List Wr} {s : Bk} {x : ByteArray} (h : LedAt w B p va vt tv ⟨u, vw, ws⟩ s) (hc : u < cnt s) (hb : Blk w2 p #[va, vt, .int .i64 ((u + 1 : Nat) : Int), vw'] 82)
    (ho : w2.ownsRow B 96 2 vw' (ws.length + 1 + 1) (cellsW (ws ++ [((u : Int), x), (-1, ⟨#[]⟩)]))) (hf : FrT B [82, 96] w w2) : LedAt w2 B p va vt tv ⟨u + 1, vw', ws ++ [((u : Int), x), (-1, ⟨#[]⟩)]⟩ s :=
  ⟨hb, h.lo, ownsRow_frT h.acs hf (by decide), h.txs.frT hf (by decide) (by decide), h.jr, h.good, by simpa using ho, by have := h.dlen; simp at this ⊢; omega, hc⟩
theorem LinesAt.frTy {w w' : World} {B : Nat} {Ts : List TypeId} {v : Value} {ls : List Ln} (h : LinesAt w v ls) (hf : FrT B Ts w w') (ht : ∀ k, v.ownBlock = some k → Tg w k 84) (hn : 84 ∉ Ts) : LinesAt w' v ls := by
  obtain ⟨ao, cap, rfl, hr⟩ := h
  refine ⟨ao, cap, rfl, ?_⟩
  rcases hr with hr | ⟨b, off, rfl, hlt, hc⟩
  · exact .inl hr
  · obtain ⟨cs, fz, hg⟩ := ht b rfl
    have hb := hf.block b hlt (fun _ T hT ⟨ds, gz, h2⟩ => by rw [hg] at h2; simp at h2; exact hn (h2.2.1 ▸ hT))
    refine .inr ⟨b, off, rfl, Nat.lt_of_lt_of_le hlt hf.size, fun i l hl => ?_⟩
    have h1 : ∀ j, w'.cell? ⟨b, j, none⟩ = w.cell? ⟨b, j, none⟩ := fun j => World.cell?_of_block (a := ⟨b, j, none⟩) hb
    rw [h1, h1]
    exact hc i l hl
theorem LinesAt.nil (w : World) : LinesAt w (.slice none 0 0) [] := ⟨_, _, rfl, .inl rfl⟩

set_option maxRecDepth 100000 in
set_option maxHeartbeats 2000000 in
theorem dayOpenW_any (B p u : Nat) (ws : List Wr) (s : Bk) (a : Int) (w : World) (h : LedW w B p u ws s) :
    Calls Tryz.prog 46 #[.pointer (some ⟨p, 0, none⟩), .int .i64 a] w fun e w' => e = .returned (.tuple #[.int .i64 (opn s a).1, .int .i64 (opn s a).2.1]) ∧ LedW w' B p (dkU (decide ((opn s a).2.1 = 0)) u) (dkW (decide ((opn s a).2.1 = 0)) u (secB 1 a 0 []) ws) (opn s a).2.2 ∧ FrT B tP w w' := by
  obtain ⟨va, vt, tv, vw, h⟩ := h
  have hg := h.good
  have hcn := h.dcnt
  have hbd := cnt_bound hg
  simp only at hcn
  have Hc := hide (ledOpen_any B p ⟨u, vw, ws⟩ s a w ⟨va, vt, tv, h⟩)
  have hor := opn_cnt hg a
  obtain ⟨⟨x, y, s'⟩, hr⟩ : ∃ r, opn s a = r := ⟨_, rfl⟩
  rw [hr] at Hc hor ⊢
  simp only at Hc hor ⊢
  clear h hr hg
  rcases hor with ⟨rfl, h0, h1, h2⟩ | ⟨hy, rfl⟩
  · simp only [decide_true]
    have hn : AmtOk a := ⟨by omega, by omega⟩
    have hz : AmtOk 0 := ⟨by omega, by omega⟩
    have hlt : u < cnt s' := by omega
    have hu : u ≤ 95 := by omega
    go_enter Tryz.func46, Tryz.ntmps46
    go_wp2_with fail
    refine (unhide Hc).mono ?_
    rintro e w1 ⟨rfl, ⟨va1, vt1, tv1, k1⟩, k2⟩
    have HL := hide (lay_any B p u va1 vt1 vw ws 1 a 0 _ [] w1 k1.blk k1.lo k1.dsk k1.dlen hu (by omega) hn hz (LinesAt.nil w1) (by simp) (by simp))
    have K1 := hide k1
    have K2 := hide k2
    clear k1 k2 Hc
    go_wp2_with fail
    refine (unhide HL).mono ?_
    rintro e w2 ⟨rfl, ⟨vw2, j1, j2⟩, j3⟩
    have HF : Hid (LedW w2 B p (u + 1) (ws ++ [((u : Int), secB 1 a 0 []), (-1, ⟨#[]⟩)]) s' ∧ FrT B tP w w2) := ⟨⟨_, _, _, _, (unhide K1).laid hlt j1 j2 j3⟩, (unhide K2).trans (j3.mono (by simp [tP]))⟩
    clear j1 j2 j3 HL K1 K2
    go_wp2_with fail
    go_ret2
    exact ⟨rfl, (unhide HF).1, (unhide HF).2⟩
  · have hd : decide (y = 0) = false := by simpa using hy
    have hye : (y == 0) = false := by simpa using hy
    rw [hd]
    go_enter Tryz.func46, Tryz.ntmps46
    go_wp2_with fail
    refine (unhide Hc).mono ?_
    rintro e w1 ⟨rfl, ⟨va1, vt1, tv1, k1⟩, k2⟩
    have K1 := hide k1
    have K2 := hide k2
    clear k1 k2 Hc
    go_wp2_with fail
    go_ret2
    exact ⟨rfl, ⟨_, _, _, _, unhide K1⟩, unhide K2⟩

set_option maxRecDepth 100000 in
set_option maxHeartbeats 2000000 in
theorem dayCloseW_any (B p u : Nat) (ws : List Wr) (s : Bk) (a : Int) (w : World) (h : LedW w B p u ws s) :
    Calls Tryz.prog 47 #[.pointer (some ⟨p, 0, none⟩), .int .i64 a] w fun e w' => e = .returned (.int .i64 (cls s a).1) ∧ LedW w' B p (dkU (decide ((cls s a).1 = 0)) u) (dkW (decide ((cls s a).1 = 0)) u (secB 2 a 0 []) ws) (cls s a).2 ∧ FrT B tP w w' := by
  obtain ⟨va, vt, tv, vw, h⟩ := h
  have hg := h.good
  have hcn := h.dcnt
  have hbd := cnt_bound hg
  simp only at hcn
  have Hc := hide (ledClose_any B p ⟨u, vw, ws⟩ s a w ⟨va, vt, tv, h⟩)
  have hor := cls_cnt hg a
  obtain ⟨⟨y, s'⟩, hr⟩ : ∃ r, cls s a = r := ⟨_, rfl⟩
  rw [hr] at Hc hor ⊢
  simp only at Hc hor ⊢
  clear h hr hg
  rcases hor with ⟨rfl, h0, h1, h2⟩ | ⟨hy, rfl⟩
  · simp only [decide_true]
    have hn : AmtOk a := ⟨by omega, by omega⟩
    have hz : AmtOk 0 := ⟨by omega, by omega⟩
    have hlt : u < cnt s' := by omega
    have hu : u ≤ 95 := by omega
    go_enter Tryz.func47, Tryz.ntmps47
    go_wp2_with fail
    refine (unhide Hc).mono ?_
    rintro e w1 ⟨rfl, ⟨va1, vt1, tv1, k1⟩, k2⟩
    have HL := hide (lay_any B p u va1 vt1 vw ws 2 a 0 _ [] w1 k1.blk k1.lo k1.dsk k1.dlen hu (by omega) hn hz (LinesAt.nil w1) (by simp) (by simp))
    have K1 := hide k1
    have K2 := hide k2
    clear k1 k2 Hc
    go_wp2_with fail
    refine (unhide HL).mono ?_
    rintro e w2 ⟨rfl, ⟨vw2, j1, j2⟩, j3⟩
    have HF : Hid (LedW w2 B p (u + 1) (ws ++ [((u : Int), secB 2 a 0 []), (-1, ⟨#[]⟩)]) s' ∧ FrT B tP w w2) := ⟨⟨_, _, _, _, (unhide K1).laid hlt j1 j2 j3⟩, (unhide K2).trans (j3.mono (by simp [tP]))⟩
    clear j1 j2 j3 HL K1 K2
    go_wp2_with fail
    go_ret
    exact ⟨rfl, (unhide HF).1, (unhide HF).2⟩
  · have hd : decide (y = 0) = false := by simpa using hy
    have hye : (y == 0) = false := by simpa using hy
    rw [hd]
    go_enter Tryz.func47, Tryz.ntmps47
    go_wp2_with fail
    refine (unhide Hc).mono ?_
    rintro e w1 ⟨rfl, ⟨va1, vt1, tv1, k1⟩, k2⟩
    have K1 := hide k1
    have K2 := hide k2
    clear k1 k2 Hc
    go_wp2_with fail
    go_ret
    exact ⟨rfl, ⟨_, _, _, _, unhide K1⟩, unhide K2⟩

set_option maxRecDepth 100000 in
set_option maxHeartbeats 2000000 in
theorem dayPostN_any (B p u : Nat) (ws : List Wr) (s : Bk) (id day : Int) (v : Value) (ls : List Ln) (w : World) (va vt vw : Value) (tv : List (Tn × Value)) (h : LedAt w B p va vt tv ⟨u, vw, ws⟩ s) (hl : LinesAt w v ls) (hty : ∀ k, v.ownBlock = some k → Tg w k 84) :
    Calls Tryz.prog 49 #[.pointer (some ⟨p, 0, none⟩), .int .i64 id, .int .i64 day, v] w fun e w' => e = .returned (.int .i64 (pst s id day ls).1) ∧ (∃ vw', LedN w tv w' B p ⟨dkU (isN s id day ls) u, vw', dkW (isN s id day ls) u (secB 3 id day ls) ws⟩ (pst s id day ls).2) ∧ FrT B tP w w' := by
  have hg := h.good
  have hcn := h.dcnt
  have hbd := cnt_bound hg
  have hfew := hg.few
  simp only at hcn
  have Hc := hide (ledPost_any B p s id day v ls w va vt tv ⟨u, vw, ws⟩ h hl)
  have hor := pst_cnt hg id day ls
  obtain ⟨ao, cap, rfl⟩ := hl.form
  have Hl := hide hl
  have Hty := hide hty
  obtain ⟨⟨y, s'⟩, hr⟩ : ∃ r, pst s id day ls = r := ⟨_, rfl⟩
  rw [hr] at Hc hor ⊢
  obtain ⟨nw, hnw⟩ : ∃ r, isN s id day ls = r := ⟨_, rfl⟩
  rw [hnw] at Hc hor ⊢
  simp only at Hc hor ⊢
  clear h hr hg hl hty hnw
  rcases hor with ⟨rfl, rfl, h0, h1, h2, h3, h4, h5, h6, h7⟩ | ⟨rfl, rfl⟩
  · have hn : AmtOk id := ⟨by omega, by omega⟩
    have hz : AmtOk day := ⟨by omega, by omega⟩
    have hlt : u < cnt s' := by omega
    have hu : u ≤ 95 := by omega
    have Hls : Hid (∀ l ∈ ls, AmtOk l.1 ∧ AmtOk l.2) := fun l hl => by have := h5 l hl; exact ⟨⟨by omega, by omega⟩, ⟨by omega, by omega⟩⟩
    clear h5 h6
    go_enter Tryz.func49, Tryz.ntmps49
    go_wp2_with fail
    refine (unhide Hc).mono ?_
    rintro e w1 ⟨rfl, ⟨va1, vt1, tv1, k1, k3⟩, k2⟩
    have HL := hide (lay_any B p u va1 vt1 vw ws 3 id day _ ls w1 k1.blk k1.lo k1.dsk k1.dlen hu (by omega) hn hz ((unhide Hl).frTy k2 (unhide Hty) (by decide)) h4 (unhide Hls))
    have K1 := hide k1
    have K2 := hide k2
    have K3 := hide k3
    clear k1 k2 k3 Hc
    go_wp2_with fail
    refine (unhide HL).mono ?_
    rintro e w2 ⟨rfl, ⟨vw2, j1, j2⟩, j3⟩
    have HF : Hid ((∃ vw', LedN w tv w2 B p ⟨u + 1, vw', ws ++ [((u : Int), secB 3 id day ls), (-1, ⟨#[]⟩)]⟩ s') ∧ FrT B tP w w2) := ⟨⟨_, _, _, _, (unhide K1).laid hlt j1 j2 j3, unhide K3⟩, (unhide K2).trans (j3.mono (by simp [tP]))⟩
    clear j1 j2 j3 HL K1 K2 K3
    go_wp2_with fail
    go_ret
    exact ⟨rfl, (unhide HF).1, (unhide HF).2⟩
  · go_enter Tryz.func49, Tryz.ntmps49
    go_wp2_with fail
    refine (unhide Hc).mono ?_
    rintro e w1 ⟨rfl, k1, k2⟩
    have K1 := hide k1
    have K2 := hide k2
    clear k1 k2 Hc
    go_wp2_with fail
    go_ret
    exact ⟨rfl, ⟨_, unhide K1⟩, unhide K2⟩

theorem dayOpen_any (B p : Nat) (s : Bk) (a : Int) (w : World) (h : Led w B p s) :
    Calls Tryz.prog 46 #[.pointer (some ⟨p, 0, none⟩), .int .i64 a] w fun e w' => e = .returned (.tuple #[.int .i64 (opn s a).1, .int .i64 (opn s a).2.1]) ∧ Led w' B p (opn s a).2.2 ∧ FrT B tP w w' := by
  obtain ⟨u, ws, h⟩ := h.some
  exact (dayOpenW_any B p u ws s a w h).mono fun e w' ⟨h1, h2, h3⟩ => ⟨h1, h2.led, h3⟩
theorem dayClose_any (B p : Nat) (s : Bk) (a : Int) (w : World) (h : Led w B p s) :
    Calls Tryz.prog 47 #[.pointer (some ⟨p, 0, none⟩), .int .i64 a] w fun e w' => e = .returned (.int .i64 (cls s a).1) ∧ Led w' B p (cls s a).2 ∧ FrT B tP w w' := by
  obtain ⟨u, ws, h⟩ := h.some
  exact (dayCloseW_any B p u ws s a w h).mono fun e w' ⟨h1, h2, h3⟩ => ⟨h1, h2.led, h3⟩
theorem dayPost_any (B p : Nat) (s : Bk) (id day : Int) (v : Value) (ls : List Ln) (w : World) (va vt : Value) (tv : List (Tn × Value)) (d : Dk) (h : LedAt w B p va vt tv d s) (hl : LinesAt w v ls) (hty : ∀ k, v.ownBlock = some k → Tg w k 84) :
    Calls Tryz.prog 49 #[.pointer (some ⟨p, 0, none⟩), .int .i64 id, .int .i64 day, v] w fun e w' => e = .returned (.int .i64 (pst s id day ls).1) ∧ (∃ d', LedN w tv w' B p d' (pst s id day ls).2) ∧ FrT B tP w w' :=
  (dayPostN_any B p d.u d.ws s id day v ls w va vt d.vw tv h hl hty).mono fun _ _ ⟨h1, ⟨_, h2⟩, h3⟩ => ⟨h1, ⟨_, h2⟩, h3⟩
theorem dayPostW_any (B p u : Nat) (ws : List Wr) (s : Bk) (id day : Int) (v : Value) (ls : List Ln) (w : World) (h : LedW w B p u ws s) (hl : LinesAt w v ls) (hty : ∀ k, v.ownBlock = some k → Tg w k 84) :
    Calls Tryz.prog 49 #[.pointer (some ⟨p, 0, none⟩), .int .i64 id, .int .i64 day, v] w fun e w' => e = .returned (.int .i64 (pst s id day ls).1) ∧ LedW w' B p (dkU (isN s id day ls) u) (dkW (isN s id day ls) u (secB 3 id day ls) ws) (pst s id day ls).2 ∧ FrT B tP w w' := by
  obtain ⟨va, vt, tv, vw, h⟩ := h
  exact (dayPostN_any B p u ws s id day v ls w va vt vw tv h hl hty).mono fun _ _ ⟨h1, ⟨_, _, _, _, h2, _⟩, h3⟩ => ⟨h1, ⟨_, _, _, _, h2⟩, h3⟩

end Go.Proofs.YtdchbenfccofpabGreatDoor
namespace Go.Proofs.YtdchbenfccofpabGreatDoor
open Go.RowKit Db

/-- What a step answers, and the book behind it. -/
def clE (s : Bk) (kd a b : Int) (ls : List Ln) : Int × Int × Bk :=
  if kd = 1 then opn s a else if kd = 2 then (0, (cls s a).1, (cls s a).2) else if kd = 3 then (0, (pst s a b ls).1, (pst s a b ls).2) else (0, 0, s)

/-- Whether it leaves a record on the disk, and which. -/
def clY (s : Bk) (kd a b : Int) (ls : List Ln) : Bool := if kd = 1 then decide ((opn s a).2.1 = 0) else if kd = 2 then decide ((cls s a).1 = 0) else if kd = 3 then isN s a b ls else false
def clX (kd a b : Int) (ls : List Ln) : ByteArray := if kd = 1 then secB 1 a 0 [] else if kd = 2 then secB 2 a 0 [] else secB 3 a b ls

set_option maxRecDepth 100000 in
set_option maxHeartbeats 4000000 in
theorem calledW_any (B p u : Nat) (ws : List Wr) (s : Bk) (kd a b : Int) (ao : Option Addr) (cap : Nat) (ls : List Ln) (w : World) (h : LedW w B p u ws s) (hl : LinesAt w (.slice ao ls.length cap) ls) (hn : ls.length ≤ 8796093022000) :
    Calls Tryz.prog 29 #[.pointer (some ⟨p, 0, none⟩), .agg #[.int .i64 kd, .int .i64 a, .int .i64 b, .slice ao ls.length cap]] w fun e w' => e = .returned (.tuple #[.int .i64 (clE s kd a b ls).1, .int .i64 (clE s kd a b ls).2.1]) ∧ LedW w' B p (dkU (clY s kd a b ls) u) (dkW (clY s kd a b ls) u (clX kd a b ls) ws) (clE s kd a b ls).2.2 ∧ FrT B tP w w' := by
  obtain ⟨bx, hbx⟩ : ∃ bx, w.heap.size = bx := ⟨_, rfl⟩
  obtain ⟨W, hW⟩ : ∃ W, w.alloc (.cells #[.int .i64 kd, .int .i64 a, .int .i64 b, .slice ao ls.length cap] 44) = W := ⟨_, rfl⟩
  have HX : Hid (Blk W bx #[.int .i64 kd, .int .i64 a, .int .i64 b, .slice ao ls.length cap] 44) := by rw [← hW, ← hbx]; exact Blk.new _ _ _
  have Hb0 : Hid (Below w.heap.size w W) := by rw [← hW]; exact (Below.refl _ _).alloc (Nat.le_refl _) _
  have H0 : Hid (LedW W B p u ws s) := by
    obtain ⟨va, vt, tv, vw, h1⟩ := h
    exact ⟨_, _, _, _, h1.kept (unhide Hb0)⟩
  have Hl0 := hide (hl.kept (unhide Hb0))
  have x0 := (unhide HX).cell 0
  have x1 := (unhide HX).cell 1
  have x3 := (unhide HX).cell 3
  simp only [List.getElem?_toArray, List.getElem?_cons_zero, List.getElem?_cons_succ] at x0 x1 x3
  clear h hl
  by_cases h1 : kd = 1
  · subst h1
    have Hop := hide (dayOpenW_any B p u ws s a W (unhide H0))
    have hcl : clE s 1 a b ls = opn s a := rfl
    have hyl : clY s 1 a b ls = decide ((opn s a).2.1 = 0) := rfl
    have hxl : clX 1 a b ls = secB 1 a 0 [] := rfl
    rw [hcl, hyl, hxl]
    clear hcl hyl hxl
    obtain ⟨⟨x, y, s'⟩, hr⟩ : ∃ r, opn s a = r := ⟨_, rfl⟩
    rw [hr] at Hop ⊢
    simp only at Hop ⊢
    obtain ⟨u', hu'⟩ : ∃ u', dkU (decide (y = 0)) u = u' := ⟨_, rfl⟩
    obtain ⟨ws', hws'⟩ : ∃ ws', dkW (decide (y = 0)) u (secB 1 a 0 []) ws = ws' := ⟨_, rfl⟩
    rw [hu', hws'] at Hop ⊢
    clear hr hu' hws'
    go_enter Tryz.func29, Tryz.ntmps29
    go_wp2_with fail
    try rw [hW]
    refine (unhide Hop).mono ?_
    rintro e w1 ⟨rfl, k1, k2⟩
    have HF : Hid (LedW w1 B p u' ws' s' ∧ FrT B tP w w1) := ⟨k1, (FrT.of_below (unhide Hb0)).trans k2⟩
    clear k1 k2
    go_wp2_with fail
    go_ret2
    exact ⟨rfl, (unhide HF).1, (unhide HF).2⟩
  by_cases h2 : kd = 2
  · subst h2
    have Hop := hide (dayCloseW_any B p u ws s a W (unhide H0))
    have hcl : clE s 2 a b ls = (0, (cls s a).1, (cls s a).2) := rfl
    have hyl : clY s 2 a b ls = decide ((cls s a).1 = 0) := rfl
    have hxl : clX 2 a b ls = secB 2 a 0 [] := rfl
    rw [hcl, hyl, hxl]
    clear hcl hyl hxl
    obtain ⟨⟨y, s'⟩, hr⟩ : ∃ r, cls s a = r := ⟨_, rfl⟩
    rw [hr] at Hop ⊢
    simp only at Hop ⊢
    obtain ⟨u', hu'⟩ : ∃ u', dkU (decide (y = 0)) u = u' := ⟨_, rfl⟩
    obtain ⟨ws', hws'⟩ : ∃ ws', dkW (decide (y = 0)) u (secB 2 a 0 []) ws = ws' := ⟨_, rfl⟩
    rw [hu', hws'] at Hop ⊢
    clear hr h1 hu' hws'
    go_enter Tryz.func29, Tryz.ntmps29
    go_wp2_with fail
    try rw [hW]
    refine (unhide Hop).mono ?_
    rintro e w1 ⟨rfl, k1, k2⟩
    have HF : Hid (LedW w1 B p u' ws' s' ∧ FrT B tP w w1) := ⟨k1, (FrT.of_below (unhide Hb0)).trans k2⟩
    clear k1 k2
    go_wp2_with fail
    go_ret2
    exact ⟨rfl, (unhide HF).1, (unhide HF).2⟩
  by_cases h3 : kd = 3
  · subst h3
    have Hop : Hid (∀ (wx : World) (v : Value), Below W.heap.size W wx → LinesAt wx v ls → (∀ k, v.ownBlock = some k → Tg wx k 84) → Calls Tryz.prog 49 #[.pointer (some ⟨p, 0, none⟩), .int .i64 a, .int .i64 b, v] wx fun e w' => e = .returned (.int .i64 (pst s a b ls).1) ∧ LedW w' B p (dkU (isN s a b ls) u) (dkW (isN s a b ls) u (secB 3 a b ls) ws) (pst s a b ls).2 ∧ FrT B tP W w') := by
      intro wx v hb hl hty
      obtain ⟨va, vt, tv, vw, h1⟩ := unhide H0
      refine (dayPostW_any B p u ws s a b v ls wx ⟨_, _, _, _, h1.kept hb⟩ hl hty).mono ?_
      rintro e w1 ⟨rfl, k1, k2⟩
      exact ⟨rfl, k1, (FrT.of_below hb).trans k2⟩
    have hcl : clE s 3 a b ls = (0, (pst s a b ls).1, (pst s a b ls).2) := rfl
    have hyl : clY s 3 a b ls = isN s a b ls := rfl
    have hxl : clX 3 a b ls = secB 3 a b ls := rfl
    rw [hcl, hyl, hxl]
    clear hcl hyl hxl
    obtain ⟨⟨y, s'⟩, hr⟩ : ∃ r, pst s a b ls = r := ⟨_, rfl⟩
    rw [hr] at Hop ⊢
    simp only at Hop ⊢
    obtain ⟨u', hu'⟩ : ∃ u', dkU (isN s a b ls) u = u' := ⟨_, rfl⟩
    obtain ⟨ws', hws'⟩ : ∃ ws', dkW (isN s a b ls) u (secB 3 a b ls) ws = ws' := ⟨_, rfl⟩
    rw [hu', hws'] at Hop ⊢
    clear hr h1 h2 hu' hws'
    go_enter Tryz.func29, Tryz.ntmps29
    go_wp2_with fail
    try rw [hW]
    try rw [hbx]
    clear hW hbx
    refine (copied_any _ ls _ (unhide Hl0) hn).mono ?_
    rintro e w1 ⟨rfl, k1, k2⟩
    have y1 := ((unhide HX).kept k2).cell 1
    have y2 := ((unhide HX).kept k2).cell 2
    simp only [List.getElem?_toArray, List.getElem?_cons_zero, List.getElem?_cons_succ] at y1 y2
    have Hp := hide (unhide Hop w1 _ k2 (LinesAt.of_blk (cap := ls.length) k1) (fun k hk => by simp only [Value.ownBlock, Option.some.injEq] at hk; subst hk; exact k1.tg))
    clear k1 k2 x0 x1 x3
    go_wp2_with fail
    refine (unhide Hp).mono ?_
    rintro e w2 ⟨rfl, k1, k2⟩
    have HF : Hid (LedW w2 B p u' ws' s' ∧ FrT B tP w w2) := ⟨k1, (FrT.of_below (unhide Hb0)).trans k2⟩
    clear k1 k2
    go_wp2_with fail
    go_ret2
    exact ⟨rfl, (unhide HF).1, (unhide HF).2⟩
  have hcl : clE s kd a b ls = (0, 0, s) := by unfold clE; rw [if_neg h1, if_neg h2, if_neg h3]
  have hyl : clY s kd a b ls = false := by unfold clY; rw [if_neg h1, if_neg h2, if_neg h3]
  rw [hcl, hyl]
  have n1 : (kd == 1) = false := by simpa using h1
  have n2 : (kd == 2) = false := by simpa using h2
  have n3 : (kd == 3) = false := by simpa using h3
  clear hcl hyl h1 h2 h3
  go_enter Tryz.func29, Tryz.ntmps29
  go_wp2_with fail
  go_ret2
  exact ⟨rfl, unhide H0, FrT.of_below (unhide Hb0)⟩

theorem called_any (B p : Nat) (s : Bk) (kd a b : Int) (ao : Option Addr) (cap : Nat) (ls : List Ln) (w : World) (h : Led w B p s) (hl : LinesAt w (.slice ao ls.length cap) ls) (hn : ls.length ≤ 8796093022000) :
    Calls Tryz.prog 29 #[.pointer (some ⟨p, 0, none⟩), .agg #[.int .i64 kd, .int .i64 a, .int .i64 b, .slice ao ls.length cap]] w fun e w' => e = .returned (.tuple #[.int .i64 (clE s kd a b ls).1, .int .i64 (clE s kd a b ls).2.1]) ∧ Led w' B p (clE s kd a b ls).2.2 ∧ FrT B tP w w' := by
  obtain ⟨u, ws, h⟩ := h.some
  exact (calledW_any B p u ws s kd a b ao cap ls w h hl hn).mono fun _ _ ⟨h1, h2, h3⟩ => ⟨h1, h2.led, h3⟩

end Go.Proofs.YtdchbenfccofpabGreatDoor
namespace Go.Proofs.YtdchbenfccofpabGreatDoor
open Go.RowKit Db

theorem RecAt.shut {w : World} {B p g cap k : Nat} {vp vt : Value} {tv : List (Tn × Value)} {s : Bk} {c : Ac} (h : RecAt w B p vp (.slice (some ⟨g, 0, none⟩) s.acs.length cap) vt tv s) (hc : s.acs[k]? = some c) (hg : BkGood { s with acs := s.acs.set k (c.1, true) }) :
    RecAt (w.setCell ⟨g, k, none⟩ (.bool true)) B p vp (.slice (some ⟨g, 0, none⟩) s.acs.length cap) vt tv { s with acs := s.acs.set k (c.1, true) } ∧ FrT B tK w (w.setCell ⟨g, k, none⟩ (.bool true)) := by
  have ht := ownsRow_tg h.clo g rfl
  have f1 : FrT B [4] w (w.setCell ⟨g, k, none⟩ (.bool true)) := (FrT.refl _ _ w).setCell (T := 4) (by simp) ht.2 ht.1 _
  refine ⟨⟨h.blk.frT f1 (by decide), h.lo, ?_, ?_, h.txs.frT f1 (by decide) (by decide), h.jr, hg⟩, f1.mono (by simp [tK])⟩
  · simp only [List.length_set]
    rw [map_shut hc]
    exact ownsRow_frT h.par f1 (by decide)
  · simp only [List.length_set, List.map_set]
    exact own_set h.clo _
theorem RecAt.drewN {w : World} {B p : Nat} {vp vc vt : Value} {tv : List (Tn × Value)} {s : Bk} (h : RecAt w B p vp vc vt tv s) (n : Nat) : RecAt (w.drewN n) B p vp vc vt tv s := h.kept ((Below.refl _ _).drewN n)

set_option maxRecDepth 100000 in
set_option maxHeartbeats 4000000 in
theorem yes_close (B q : Nat) (s : Bk) (k : Nat) (b n : Int) (ao : Option Addr) (m cap : Nat) (c : Ac) (w : World) (h : Rec w B q s) (hc : s.acs[k]? = some c) (h1 : 1 ≤ k) (hcc : c.2 = false) (hg : BkGood { s with acs := s.acs.set k (c.1, true) }) :
    Calls Tryz.prog 37 #[.pointer (some ⟨q, 0, none⟩), .agg #[.int .i64 2, .int .i64 (k : Int), .int .i64 b, .slice ao m cap], .int .i64 n] w fun e w' => e = .returned (.bool true) ∧ Rec w' B q { s with acs := s.acs.set k (c.1, true) } ∧ FrT B tK w w' := by
  obtain ⟨bx, hbx⟩ : ∃ bx, w.heap.size = bx := ⟨_, rfl⟩
  obtain ⟨W, hW⟩ : ∃ W, w.alloc (.cells #[.int .i64 2, .int .i64 (k : Int), .int .i64 b, .slice ao m cap] 44) = W := ⟨_, rfl⟩
  have HX : Hid (Blk W bx #[.int .i64 2, .int .i64 (k : Int), .int .i64 b, .slice ao m cap] 44) := by rw [← hW, ← hbx]; exact Blk.new _ _ _
  have Hb0 : Hid (Below w.heap.size w W) := by rw [← hW]; exact (Below.refl _ _).alloc (Nat.le_refl _) _
  obtain ⟨vp, vc, vt, tv, h⟩ := h
  obtain ⟨g, capp, rfl, hg1, hg1'⟩ := ownsRow_some h.par h.good.one
  obtain ⟨g2, cap2, rfl, hg2, hg2'⟩ := ownsRow_some h.clo h.good.one
  have hk : k < s.acs.length := (List.getElem?_eq_some_iff.1 hc).1
  have hfew := h.good.few
  have H0 := hide (h.kept (unhide Hb0))
  have d := ownsRow_cell (unhide H0).clo (j := k) (u := .bool false) (by rw [List.getElem?_map, hc, ← hcc]; rfl)
  have zf := ownsRow_frozen (unhide H0).clo k
  have x0 := (unhide HX).cell 0
  have x1 := (unhide HX).cell 1
  have c0 := (unhide H0).blk.cell 0
  have c1 := (unhide H0).blk.cell 1
  simp only [List.getElem?_toArray, List.getElem?_cons_zero, List.getElem?_cons_succ] at x0 x1 c0 c1
  have Hfin : Hid (∀ n', RecAt ((W.drewN n').setCell ⟨g2, k, none⟩ (.bool true)) B q _ _ _ tv { s with acs := s.acs.set k (c.1, true) } ∧ FrT B tK (W.drewN n') ((W.drewN n').setCell ⟨g2, k, none⟩ (.bool true))) := fun n' => ((unhide H0).drewN n').shut hc hg
  have l1 : ¬ ((k : Int) < 1) := by omega
  have l2 : ¬ ((s.acs.length : Int) ≤ (k : Int)) := by omega
  have l3 : (k : Int) < (s.acs.length : Int) := by omega
  have l4 : (0 : Int) ≤ (k : Int) := by omega
  clear h hc hg
  go_enter Tryz.func37, Tryz.ntmps37
  go_upto_region 8 with fail
  try rw [hW]
  try rw [hbx]
  clear hW hbx
  go_quiet (fail)
  go_upto_region 10 with fail
  go_region
  all_goals
    go_wp2_with fail
    go_ret
    have hf := unhide Hfin
    refine ⟨rfl, ⟨_, _, _, _, (hf _).1⟩, ?_⟩
    exact (((FrT.of_below (unhide Hb0)).drewN _).trans (hf _).2)

end Go.Proofs.YtdchbenfccofpabGreatDoor
