/- A record of what a book said yes to: how it lies; blank, same; its accounts. A record: find. Walks of the books: the program's Journal. A record: its journal. A record: does a book tell what it says? The law's lists: handed, still, over. Lines of their own. The disk: a number, and a record, as bytes. The disk: a record as a sector. -/
import Derived.Test.YtdchbenfccofpaaGreatDoorJ04
import Derived.Test.YtdchbenfccofpaaGreatDoorJ01
import Derived.Laws.IdiomStrings
import Derived.Deep.LoopGhost
import Derived.Test.YtdchbenfccofpaaGreatDoorJ03
namespace Go.Proofs.YtdchbenfccofpaaGreatDoor
open Go.RowKit Db

/-- A record of what a book said yes to, at the pointer p: the same as a book. -/
structure RecAt (w : World) (B p : Nat) (vp vc vt : Value) (tv : List (Tn × Value)) (s : Bk) : Prop where
  blk : Blk w p #[vp, vc, vt] 63
  lo : B ≤ p
  par : w.ownsRow B 3 1 vp s.acs.length (s.acs.map fun a => .int .i64 a.1)
  clo : w.ownsRow B 4 1 vc s.acs.length (s.acs.map fun a => .bool a.2)
  txs : Txs w B 120 vt tv
  jr : tv.map (·.1) = s.txs
  good : BkGood s
def tK : List TypeId := [63, 3, 4, 120]
def Rec (w : World) (B p : Nat) (s : Bk) : Prop := ∃ vp vc vt tv, RecAt w B p vp vc vt tv s
theorem RecAt.frT {w w' : World} {B B' p : Nat} {vp vc vt : Value} {tv : List (Tn × Value)} {s : Bk} {Ts : List TypeId} (h : RecAt w B p vp vc vt tv s) (hf : FrT B' Ts w w') (h1 : ∀ T ∈ tK, T ∉ Ts) (h2 : 89 ∉ Ts) : RecAt w' B p vp vc vt tv s :=
  ⟨h.blk.frT hf (h1 _ (by simp [tK])), h.lo, ownsRow_frT h.par hf (h1 _ (by simp [tK])), ownsRow_frT h.clo hf (h1 _ (by simp [tK])), h.txs.frT hf (h1 _ (by simp [tK])) h2, h.jr, h.good⟩
theorem RecAt.kept {w w' : World} {B p : Nat} {vp vc vt : Value} {tv : List (Tn × Value)} {s : Bk} (h : RecAt w B p vp vc vt tv s) (hb : Below w.heap.size w w') : RecAt w' B p vp vc vt tv s :=
  h.frT (FrT.of_below (B := 0) (Ts := []) hb) (by simp) (by simp)


theorem Rec.kept {w w' : World} {B p : Nat} {s : Bk} (h : Rec w B p s) (hb : Below w.heap.size w w') : Rec w' B p s := by
  obtain ⟨vp, vc, vt, tv, h⟩ := h
  exact ⟨vp, vc, vt, tv, h.kept hb⟩

set_option maxRecDepth 100000 in
set_option maxHeartbeats 1000000 in
theorem blank_any (w : World) :
    Calls Tryz.prog 63 #[] w fun e w' => ∃ p, e = .returned (.pointer (some ⟨p, 0, none⟩)) ∧ Rec w' w.heap.size p bk0 ∧ Below w.heap.size w w' := by
  go_enter Tryz.func63, Tryz.ntmps63
  go_wp2_with fail
  go_ret
  refine ⟨w.heap.size + 1 + 1, rfl, ⟨.slice (some ⟨w.heap.size, 0, none⟩) 1 1, .slice (some ⟨w.heap.size + 1, 0, none⟩) 1 1, .slice none 0 0, [], ?_, by omega, ?_, ?_, ⟨World.ownsRow_nil _ _ _ _, by simp⟩, rfl, good0⟩, ?_⟩
  · have := Blk.new ((w.alloc (Obj.cells #[Value.int IntKind.i64 (-1)] 3)).alloc (Obj.cells #[Value.bool false] 4)) #[.slice (some ⟨w.heap.size, 0, none⟩) 1 1, .slice (some ⟨w.heap.size + 1, 0, none⟩) 1 1, .slice none 0 0] 63
    simpa using this
  · exact owns_new (cs := #[.int .i64 (-1)]) (((Blk.new w #[.int .i64 (-1)] 3).alloc _).alloc _) (by omega) (by unfold maxLen; omega) rfl
  · exact owns_new (cs := #[.bool false]) (by simpa [Blk] using (Blk.new (w.alloc (Obj.cells #[Value.int IntKind.i64 (-1)] 3)) #[.bool false] 4).alloc (Obj.cells #[.slice (some ⟨w.heap.size, 0, none⟩) 1 1, .slice (some ⟨w.heap.size + 1, 0, none⟩) 1 1, .slice none 0 0] 63)) (by omega) (by unfold maxLen; omega) rfl
  · exact (((Below.refl _ _).alloc (Nat.le_refl _) _).alloc (by simp) _).alloc (by simp; omega) _

set_option maxRecDepth 100000 in
set_option maxHeartbeats 2000000 in
theorem same_any (ls ls' : List Ln) (v v' : Value) (w : World) (h : LinesAt w v ls) (h' : LinesAt w v' ls') (h4 : ls.length ≤ 4) :
    Calls Tryz.prog 71 #[v, v'] w fun e w' => e = .returned (.bool (sameB ls ls')) ∧ ∃ n, w' = w.drewN n := by
  obtain ⟨ao, cap, rfl⟩ := h.form
  obtain ⟨ao', cap', rfl⟩ := h'.form
  have H := hide h
  have H' := hide h'
  clear h h'
  by_cases hlen : ls.length = ls'.length
  · have he : ((ls.length : Int) != (ls'.length : Int)) = false := by simp; omega
    have Hlen := hide hlen
    have h4' : ls'.length ≤ 4 := by omega
    clear hlen
    go_enter Tryz.func71, Tryz.ntmps71
    go_wp2_with fail
    go_loopg [5] ls.length (fun m i wr => ∃ j n : Nat, j ≤ ls.length ∧ m = ls.length - j ∧ i = .int .i64 j ∧ Hid (ls.take j = ls'.take j) ∧ wr = w.drewN n)
    case atStart => exact ⟨0, 0, by omega, rfl, rfl, rfl, rfl⟩
    case round =>
      obtain ⟨j, n, hj, rfl, rfl, Ho, rfl⟩ := hrel
      by_cases hlt : j < ls.length
      · obtain ⟨⟨la, lm⟩, hl⟩ : ∃ l, ls[j]? = some l := ⟨ls[j], List.getElem?_eq_getElem hlt⟩
        obtain ⟨⟨ra, rm⟩, hr⟩ : ∃ l, ls'[j]? = some l := ⟨ls'[j]'(by rw [← unhide Hlen]; exact hlt), List.getElem?_eq_getElem _⟩
        obtain ⟨_, b, off, rfl, hbl, d1, d2⟩ := (unhide H).line hl
        obtain ⟨_, b', off', rfl, hbl', f1, f2⟩ := (unhide H').line hr
        have hlt' : j < ls'.length := by have := unhide Hlen; omega
        have Hl := hide hl
        have Hr := hide hr
        simp only at d1 d2 f1 f2
        clear hl hr
        by_cases hsame : la = ra ∧ lm = rm
        · obtain ⟨rfl, rfl⟩ := hsame
          go_upto_region 6 with fail
          go_quiet (fail)
          go_wp2_with fail
          go_roundg (ls.length - (j + 1))
          case measure => omega
          case rel => exact ⟨j + 1, _, by omega, rfl, by go_num, take_more (unhide Ho) (unhide Hl) (unhide Hr), by first | rfl | exact (World.drewN_drewN _ _ _)⟩
        · have Hno : Hid (false = sameB ls ls') := by
            show _ = _
            unfold sameB
            rw [eq_comm, decide_eq_false_iff_not]
            intro e
            have h1 := unhide Hl
            have h2 := unhide Hr
            rw [e, h2] at h1
            simp only [Option.some.injEq, Prod.mk.injEq] at h1
            exact hsame ⟨h1.1.symm, h1.2.symm⟩
          by_cases hra : la = ra
          · subst hra
            have hrm : (lm == rm) = false := by simpa using hsame
            have hrm2 : ¬ lm = rm := by simpa using hrm
            clear hsame
            go_upto_region 6 with fail
            go_quiet (fail)
            go_wp2_with fail
            go_ret
            exact ⟨retB' (unhide Hno), _, by first | rfl | exact (World.drewN_drewN _ _ _)⟩
          · have hrm : (la == ra) = false := by simpa using hra
            clear hsame
            go_upto_region 6 with fail
            go_quiet (fail)
            go_wp2_with fail
            go_ret
            exact ⟨retB' (unhide Hno), _, by first | rfl | exact (World.drewN_drewN _ _ _)⟩
      · obtain rfl : j = ls.length := by omega
        go_wp2_with fail
        go_ret
        refine ⟨retB' ?_, n, rfl⟩
        have h1 := unhide Ho
        rw [List.take_length, unhide Hlen, List.take_length] at h1
        unfold sameB
        simp [h1]
  · have he : ((ls.length : Int) != (ls'.length : Int)) = true := by simp; omega
    go_enter Tryz.func71, Tryz.ntmps71
    go_wp2_with fail
    go_ret
    refine ⟨retB' ?_, 0, rfl⟩
    unfold sameB
    rw [eq_comm, decide_eq_false_iff_not]
    intro e
    exact hlen (by rw [e])

set_option maxRecDepth 100000 in
set_option maxHeartbeats 4000000 in
theorem recAccounts_any (B p : Nat) (s : Bk) (w : World) (h : Rec w B p s) (ht : Tab w) :
    Calls Tryz.prog 35 #[.pointer (some ⟨p, 0, none⟩)] w fun e w' => ∃ u : ByteArray, e = .returned (.string u) ∧ L u = accT s ∧ Below w.heap.size w w' := by
  obtain ⟨vp, vc, vt, tv, h⟩ := h
  obtain ⟨g, cap, rfl, hg, hg'⟩ := ownsRow_some h.par h.good.one
  obtain ⟨g2, cap2, rfl, hg2, hg2'⟩ := ownsRow_some h.clo h.good.one
  have hfew := h.good.few
  have hone := h.good.one
  have H := hide h
  have Ht := hide ht
  clear h ht
  go_enter Tryz.func35, Tryz.ntmps35
  go_wp2_with fail
  go_loopg [3, 4] s.acs.length (fun m vu i wr => ∃ j : Nat, ∃ u : ByteArray, j + 1 ≤ s.acs.length ∧ m = s.acs.length - j ∧ i = .int .i64 ((j + 1 : Nat) : Int) ∧ vu = .string u ∧ u.size ≤ 24 * j ∧ Hid (L u = jn 44 ((accL s).take j)) ∧ Hid (Below w.heap.size w wr))
  case atStart => exact ⟨0, ⟨#[]⟩, by omega, by omega, rfl, rfl, Nat.le_refl 0, rfl, Below.refl _ _⟩
  case round =>
    obtain ⟨j, u, hj, rfl, rfl, rfl, hus, Hu, Hb⟩ := hrel
    have hsz := (unhide Hb).size
    have H1 := hide ((unhide H).kept (unhide Hb))
    have c0 := (unhide H1).blk.cell 0
    simp only [List.getElem?_toArray, List.getElem?_cons_zero] at c0
    by_cases hlt : j + 1 < s.acs.length
    · obtain ⟨c, hc⟩ := acs_get hlt
      have d1 := ownsRow_cell (unhide H1).par (j := j + 1) (u := .int .i64 c.1) (by rw [List.getElem?_map, hc]; rfl)
      have hpar := (unhide H).good.par c (List.mem_of_getElem? hc)
      have Hst := hide (fun t => acc_step (t := t) hc (unhide Hu))
      have Hcl := hide (fun (wx : World) (hb : Below w.heap.size w wx) => ownsRow_cell ((unhide H).kept hb).clo (j := j + 1) (u := .bool c.2) (by rw [List.getElem?_map, hc]; rfl))
      obtain ⟨cp, cc⟩ := c
      simp only at d1 hpar Hst Hcl
      clear hc
      by_cases hj0 : j = 0
      · subst hj0
        go_wp2_with fail
        refine (itoa_any cp _ (by omega) (by omega) ((unhide Ht).below (by exact unhide Hb))).mono ?_
        rintro e w3 ⟨t, rfl, ht, hb3⟩
        have htz : t.size ≤ 21 := itoa_size (by omega) (by omega) ht
        have Hb3 : Hid (Below w.heap.size w w3) := (unhide Hb).then' (by omega) hb3
        have d2 := unhide Hcl _ (unhide Hb3)
        have c3 := ((unhide H).kept (unhide Hb3)).blk.cell 1
        simp only [List.getElem?_toArray, List.getElem?_cons_zero, List.getElem?_cons_succ] at c3
        have Hn := hide ((unhide Hst _ ht).1 (by simp))
        clear ht hb3
        cases cc with
        | true =>
          go_wp2_with fail
          go_roundg (s.acs.length - (0 + 1))
          case measure => omega
          case rel => exact ⟨0 + 1, u ++ t ++ ⟨#[120]⟩, by omega, rfl, by go_num, rfl, by rw [ByteArray.size_append, ByteArray.size_append]; show u.size + t.size + 1 ≤ _; omega, by show _ = _; rw [L_append, L_append]; exact unhide Hn, unhide Hb3⟩
        | false =>
          go_wp2_with fail
          go_roundg (s.acs.length - (0 + 1))
          case measure => omega
          case rel => exact ⟨0 + 1, u ++ t, by omega, rfl, by go_num, rfl, by rw [ByteArray.size_append]; omega, by show _ = _; rw [L_append]; simpa using unhide Hn, unhide Hb3⟩
      · have hgt : decide ((1 : Int) < ((j + 1 : Nat) : Int)) = true := by simp; omega
        go_wp2_with fail
        refine (itoa_any cp _ (by omega) (by omega) ((unhide Ht).below (by exact unhide Hb))).mono ?_
        rintro e w3 ⟨t, rfl, ht, hb3⟩
        have htz : t.size ≤ 21 := itoa_size (by omega) (by omega) ht
        have Hb3 : Hid (Below w.heap.size w w3) := (unhide Hb).then' (by omega) hb3
        have d2 := unhide Hcl _ (unhide Hb3)
        have c3 := ((unhide H).kept (unhide Hb3)).blk.cell 1
        simp only [List.getElem?_toArray, List.getElem?_cons_zero, List.getElem?_cons_succ] at c3
        have Hn := hide ((unhide Hst _ ht).2 (by omega))
        clear ht hb3
        cases cc with
        | true =>
          go_wp2_with fail
          go_roundg (s.acs.length - (j + 1))
          case measure => omega
          case rel => exact ⟨j + 1, u ++ ⟨#[44]⟩ ++ t ++ ⟨#[120]⟩, by omega, rfl, by go_num, rfl, by rw [ByteArray.size_append, ByteArray.size_append, ByteArray.size_append]; show u.size + 1 + t.size + 1 ≤ _; omega, by show _ = _; rw [L_append, L_append, L_append]; exact unhide Hn, unhide Hb3⟩
        | false =>
          go_wp2_with fail
          go_roundg (s.acs.length - (j + 1))
          case measure => omega
          case rel => exact ⟨j + 1, u ++ ⟨#[44]⟩ ++ t, by omega, rfl, by go_num, rfl, by rw [ByteArray.size_append, ByteArray.size_append]; show u.size + 1 + t.size ≤ _; omega, by show _ = _; rw [L_append, L_append]; have := unhide Hn; simpa [L] using this, unhide Hb3⟩
    · obtain rfl : j = s.acs.length - 1 := by omega
      go_wp2_with fail
      go_ret
      exact ⟨u, rfl, accL_all (unhide Hu), unhide Hb⟩

end Go.Proofs.YtdchbenfccofpaaGreatDoor
namespace Go.Proofs.YtdchbenfccofpaaGreatDoor
open Go.RowKit Db

/-- Where a transaction of this id stands, counted from k on; -1: nowhere. -/
def findI (id : Int) : Nat → List Tn → Int
  | _, [] => -1
  | k, t :: r => if t.1 == id then (k : Int) else findI id (k + 1) r
theorem findI_step {id : Int} {l : List Tn} {j : Nat} {t : Tn} (h : l[j]? = some t) : findI id j (l.drop j) = if t.1 == id then (j : Int) else findI id (j + 1) (l.drop (j + 1)) := by
  obtain ⟨hi, rfl⟩ := List.getElem?_eq_some_iff.1 h
  rw [List.drop_eq_getElem_cons hi]; rfl
theorem findI_none {id : Int} : ∀ (l : List Tn) (k : Nat), findT id l = none → findI id k l = -1 := by
  intro l
  induction l with
  | nil => intro k _; rfl
  | cons t r ih =>
    intro k h
    unfold findT at h
    unfold findI
    split at h
    · cases h
    · next hn => rw [if_neg hn]; exact ih _ h
theorem findI_some {id : Int} : ∀ (l : List Tn) (k : Nat) (t : Tn), findT id l = some t → ∃ i : Nat, l[i]? = some t ∧ findI id k l = ((k + i : Nat) : Int) := by
  intro l
  induction l with
  | nil => intro k t h; cases h
  | cons x r ih =>
    intro k t h
    unfold findT at h
    unfold findI
    split at h
    · next hy => cases h; exact ⟨0, rfl, by rw [if_pos hy]; simp⟩
    · next hn =>
      obtain ⟨i, h1, h2⟩ := ih (k + 1) t h
      exact ⟨i + 1, by simpa using h1, by rw [if_neg hn, h2]; congr 1; omega⟩

set_option maxRecDepth 100000 in
set_option maxHeartbeats 2000000 in
theorem recFind_any (B p : Nat) (s : Bk) (id : Int) (w : World) (h : Rec w B p s) :
    Calls Tryz.prog 70 #[.pointer (some ⟨p, 0, none⟩), .int .i64 id] w fun e w' => e = .returned (.int .i64 (findI id 0 s.txs)) ∧ w' = w := by
  obtain ⟨vp, vc, vt, tv, h⟩ := h
  obtain ⟨ao, cap, rfl⟩ := ownsRow_form h.txs.own
  have hlen : tv.length ≤ 64 := by have := h.good.posts; rw [← h.jr, List.length_map] at this; exact this
  have Hjr := hide h.jr
  have H := hide h
  obtain ⟨r, hr⟩ : ∃ r, findI id 0 s.txs = r := ⟨_, rfl⟩
  rw [hr]
  have Hr := hide hr
  have c2 := h.blk.cell 2
  simp only [List.getElem?_toArray, List.getElem?_cons_zero, List.getElem?_cons_succ] at c2
  clear h hr
  go_enter Tryz.func70, Tryz.ntmps70
  go_wp2_with fail
  go_loopg [5] tv.length (fun m i wr => ∃ j : Nat, j ≤ tv.length ∧ m = tv.length - j ∧ i = .int .i64 j ∧ Hid (findI id j (s.txs.drop j) = r) ∧ wr = w)
  case atStart => exact ⟨0, by omega, rfl, rfl, unhide Hr, rfl⟩
  case round =>
    obtain ⟨j, hj, rfl, rfl, Ho, rfl⟩ := hrel
    by_cases hlt : j < tv.length
    · obtain ⟨⟨t, v⟩, ht⟩ : ∃ t, tv[j]? = some t := ⟨tv[j], List.getElem?_eq_getElem hlt⟩
      obtain ⟨g, _, e1, hg, hg'⟩ := ownsRow_some (unhide H).txs.own (by omega)
      simp only [Value.slice.injEq, true_and] at e1
      obtain ⟨rfl, rfl⟩ := e1
      have h3 := three_get (fun x : Tn × Value => Value.int .i64 x.1.1) (fun x => .int .i64 x.1.2.1) (fun x => x.2) tv j (t, v) ht
      have d0 := ownsRow_cell (unhide H).txs.own (j := j * 3) h3.1
      have hst : s.txs[j]? = some t := by rw [← unhide Hjr, List.getElem?_map, ht]; rfl
      have Hst := hide (findI_step (id := id) hst)
      obtain ⟨ti, td, tl⟩ := t
      simp only at d0 Hst
      clear h3 hst ht
      by_cases hid : ti = id
      · subst hid
        have Hx : Hid ((j : Int) = r) := by
          show _ = _
          have h1 := unhide Ho
          rw [unhide Hst] at h1
          simpa using h1
        go_wp2_with fail
        go_ret
        exact ⟨retI' (unhide Hx), rfl⟩
      · have hne : (ti == id) = false := by simpa using hid
        go_wp2_with fail
        go_roundg (tv.length - (j + 1))
        case measure => omega
        case rel => exact ⟨j + 1, by omega, rfl, by go_num, by show _ = _; rw [← unhide Ho, unhide Hst, hne]; simp, rfl⟩
    · obtain rfl : j = tv.length := by omega
      have hrr : r = -1 := by
        rw [← unhide Ho, List.drop_of_length_le (by rw [← unhide Hjr, List.length_map]; exact Nat.le_refl _)]
        rfl
      subst hrr
      go_wp2_with fail
      go_ret
      exact ⟨rfl, rfl⟩

end Go.Proofs.YtdchbenfccofpaaGreatDoor
namespace Go.Proofs.YtdchbenfccofpaaGreatDoor
open Go.RowKit Db

def prT (a b : Int) : List UInt8 := Lib.itoa a ++ 58 :: Lib.itoa b
def lnT (l : List Ln) : List UInt8 := l.flatMap fun x => 44 :: prT x.1 x.2
def txT (t : Tn) : List UInt8 := prT t.1 t.2.1 ++ lnT t.2.2
def jrL (s : Bk) : List (List UInt8) := s.txs.map txT
def jrT (s : Bk) : List UInt8 := jn 59 (jrL s)
theorem lnT_step {l : List Ln} {j : Nat} {x : Ln} (h : l[j]? = some x) : lnT (l.take (j + 1)) = lnT (l.take j) ++ 44 :: prT x.1 x.2 := by
  unfold lnT; rw [List.take_add_one, h]; simp
theorem prT_size {a b : Int} (h0 : -9223372036854775808 ≤ a) (h1 : a ≤ 9223372036854775807) (h2 : -9223372036854775808 ≤ b) (h3 : b ≤ 9223372036854775807) : (prT a b).length ≤ 43 := by
  have := Lib.itoa_length_le a h0 h1
  have := Lib.itoa_length_le b h2 h3
  unfold prT
  rw [List.length_append, List.length_cons]
  omega
theorem jr_step {s : Bk} {j : Nat} {t : Tn} (h : s.txs[j]? = some t) {u x : List UInt8} (hu : u = jn 59 ((jrL s).take j)) (hx : x = txT t) :
    (j = 0 → u ++ x = jn 59 ((jrL s).take (j + 1))) ∧ (0 < j → u ++ [59] ++ x = jn 59 ((jrL s).take (j + 1))) := by
  have hm : (jrL s)[j]? = some x := by unfold jrL; rw [List.getElem?_map, h, hx]; rfl
  constructor
  · rintro rfl
    rw [jn_one hm, hu]; rfl
  · intro hj
    rw [jn_more hj hm, hu]; simp
/-- What is known of a transaction's numbers. -/
structure TxOk (t : Tn) : Prop where
  id : 0 ≤ t.1 ∧ t.1 ≤ 9999
  day : 0 ≤ t.2.1 ∧ t.2.1 ≤ 999
  few : t.2.2.length ≤ 4
  lns : ∀ l ∈ t.2.2, 0 < l.1 ∧ l.1 < 16 ∧ -1000000000000 ≤ l.2 ∧ l.2 ≤ 1000000000000
theorem good_ok {s : Bk} (h : BkGood s) {t : Tn} (ht : t ∈ s.txs) : TxOk t := by
  have := h.tx t ht
  exact ⟨⟨this.1, this.2.1⟩, ⟨this.2.2.1, this.2.2.2.1⟩, this.2.2.2.2.1, this.2.2.2.2.2⟩

set_option maxRecDepth 100000 in
set_option maxHeartbeats 1000000 in
theorem showPair_any (a b : Int) (w : World) (h0 : -9223372036854775808 ≤ a) (h1 : a ≤ 9223372036854775807) (h2 : -9223372036854775808 ≤ b) (h3 : b ≤ 9223372036854775807) (ht : Tab w) :
    Calls Tryz.prog 125 #[.int .i64 a, .int .i64 b] w fun e w' => ∃ u : ByteArray, e = .returned (.string u) ∧ L u = prT a b ∧ Below w.heap.size w w' := by
  have Ht := hide ht
  clear ht
  go_enter Tryz.func125, Tryz.ntmps125
  go_wp2_with fail
  refine (itoa_any a _ h0 h1 (unhide Ht)).mono ?_
  rintro e w1 ⟨u1, rfl, hu1, hb1⟩
  have hs1 := itoa_size h0 h1 hu1
  have Hu1 := hide hu1
  have Hb1 := hide hb1
  clear hu1 hb1
  go_wp2_with fail
  refine (itoa_any b _ h2 h3 ((unhide Ht).below (unhide Hb1))).mono ?_
  rintro e w2 ⟨u2, rfl, hu2, hb2⟩
  have hs2 := itoa_size h2 h3 hu2
  have Hu2 := hide hu2
  have Hb2 := hide ((unhide Hb1).then hb2)
  clear hu2 hb2
  go_wp2_with fail
  go_ret
  refine ⟨_, rfl, ?_, unhide Hb2⟩
  rw [L_append, L_append, unhide Hu1, unhide Hu2]
  show Lib.itoa a ++ [58] ++ Lib.itoa b = _
  unfold prT
  simp

set_option maxRecDepth 100000 in
set_option maxHeartbeats 2000000 in
theorem showTx_any (ti td : Int) (ls : List Ln) (v : Value) (w : World) (hok : TxOk (ti, td, ls)) (hl : LinesAt w v ls) (ht : Tab w) :
    Calls Tryz.prog 88 #[.agg #[.int .i64 ti, .int .i64 td, v]] w fun e w' => ∃ u : ByteArray, e = .returned (.string u) ∧ L u = txT (ti, td, ls) ∧ u.size ≤ 219 ∧ Below w.heap.size w w' := by
  obtain ⟨ao, cap, rfl⟩ := hl.form
  obtain ⟨⟨i0, i1⟩, ⟨d0, d1⟩, h4, hln⟩ := hok
  simp only at i0 i1 d0 d1 h4 hln
  have Ht := hide ht
  have Hl := hide hl
  have Hln := hide hln
  obtain ⟨W, hW⟩ : ∃ W, w.alloc (.cells #[.int .i64 ti, .int .i64 td, .slice ao ls.length cap] 148) = W := ⟨_, rfl⟩
  have HB : Hid (Blk W w.heap.size #[.int .i64 ti, .int .i64 td, .slice ao ls.length cap] 148) := by rw [← hW]; exact Blk.new _ _ _
  have Hw : Hid (Below w.heap.size w W) := by rw [← hW]; exact (Below.refl _ _).alloc (Nat.le_refl _) _
  have x0 := (unhide HB).cell 0
  have x1 := (unhide HB).cell 1
  simp only [List.getElem?_toArray, List.getElem?_cons_zero, List.getElem?_cons_succ] at x0 x1
  clear ht hl hln
  go_enter Tryz.func88, Tryz.ntmps88
  go_wp2_with fail
  try rw [hW]
  refine (showPair_any ti td W (by omega) (by omega) (by omega) (by omega) ((unhide Ht).below (unhide Hw))).mono ?_
  rintro e w1 ⟨u0, rfl, hu0, hb1⟩
  have hz0 : u0.size ≤ 43 := by rw [size_L, hu0]; exact prT_size (by omega) (by omega) (by omega) (by omega)
  have HB1 := hide ((unhide HB).kept hb1)
  have x2 := (unhide HB1).cell 2
  simp only [List.getElem?_toArray, List.getElem?_cons_zero, List.getElem?_cons_succ] at x2
  have Hb1 := hide ((unhide Hw).then hb1)
  have Hu0 := hide hu0
  clear hu0 hb1 hW
  go_wp2_with fail
  go_loopg [3, 14] ls.length (fun m vu i wr => ∃ j : Nat, ∃ u : ByteArray, j ≤ ls.length ∧ m = ls.length - j ∧ i = .int .i64 j ∧ vu = .string u ∧ u.size ≤ 43 + 44 * j ∧ Hid (L u = prT ti td ++ lnT (ls.take j)) ∧ Hid (Below w.heap.size w wr))
  case atStart => exact ⟨0, u0, by omega, rfl, rfl, rfl, by omega, by show _ = _; rw [unhide Hu0]; simp [lnT], unhide Hb1⟩
  case round =>
    obtain ⟨j, u, hj, rfl, rfl, rfl, hus, Hu, Hb⟩ := hrel
    have hsz := (unhide Hb).size
    by_cases hlt : j < ls.length
    · obtain ⟨⟨la, lm⟩, hlj⟩ : ∃ l, ls[j]? = some l := ⟨ls[j], List.getElem?_eq_getElem hlt⟩
      obtain ⟨_, b, off, rfl, hbl, d1', d2'⟩ := ((unhide Hl).kept (unhide Hb)).line hlj
      have hb := unhide Hln _ (List.mem_of_getElem? hlj)
      have Hst := hide (lnT_step hlj)
      simp only at d1' d2' hb Hst
      clear hlj
      go_wp2_with fail
      refine (showPair_any la lm _ (by omega) (by omega) (by omega) (by omega) ((unhide Ht).below (by exact (unhide Hb).alloc hsz _))).mono ?_
      rintro e w3 ⟨y, rfl, hy, hb3⟩
      have hyz : y.size ≤ 43 := by rw [size_L, hy]; exact prT_size (by omega) (by omega) (by omega) (by omega)
      have Hb3 : Hid (Below w.heap.size w w3) := ((unhide Hb).alloc hsz _).then' (by simp; omega) hb3
      have Hy := hide hy
      clear hy hb3
      go_wp2_with fail
      go_roundg (ls.length - (j + 1))
      case measure => omega
      case rel => exact ⟨j + 1, u ++ (⟨#[44]⟩ ++ y), by omega, rfl, by go_num, rfl, by rw [ByteArray.size_append, ByteArray.size_append]; show u.size + (1 + y.size) ≤ _; omega, by show _ = _; rw [L_append, L_append, unhide Hu, unhide Hy, unhide Hst, List.append_assoc]; rfl, unhide Hb3⟩
    · obtain rfl : j = ls.length := by omega
      go_wp2_with fail
      go_ret
      refine ⟨u, rfl, ?_, by omega, unhide Hb⟩
      rw [unhide Hu, List.take_length]; rfl

set_option maxRecDepth 100000 in
set_option maxHeartbeats 2000000 in
theorem ledJournal_any (B p : Nat) (s : Bk) (w : World) (h : Led w B p s) (ht : Tab w) :
    Calls Tryz.prog 50 #[.pointer (some ⟨p, 0, none⟩)] w fun e w' => ∃ u : ByteArray, e = .returned (.string u) ∧ L u = jrT s ∧ Below w.heap.size w w' := by
  obtain ⟨va, vt, tv, dk, h⟩ := h
  obtain ⟨ao, cap, rfl⟩ := ownsRow_form h.txs.own
  have c1 := h.blk.cell 1
  simp only [List.getElem?_toArray, List.getElem?_cons_zero, List.getElem?_cons_succ] at c1
  have hlen : tv.length ≤ 64 := by have := h.good.posts; rw [← h.jr, List.length_map] at this; exact this
  have Hjr := hide h.jr
  have H := hide h
  have Ht := hide ht
  clear h ht
  go_enter Tryz.func50, Tryz.ntmps50
  go_wp2_with fail
  go_loopg [3, 11] tv.length (fun m vu i wr => ∃ j : Nat, ∃ u : ByteArray, j ≤ tv.length ∧ m = tv.length - j ∧ i = .int .i64 j ∧ vu = .string u ∧ u.size ≤ 220 * j ∧ Hid (L u = jn 59 ((jrL s).take j)) ∧ Hid (Below w.heap.size w wr))
  case atStart => exact ⟨0, ⟨#[]⟩, by omega, rfl, rfl, rfl, Nat.le_refl 0, rfl, Below.refl _ _⟩
  case round =>
    obtain ⟨j, u, hj, rfl, rfl, rfl, hus, Hu, Hb⟩ := hrel
    have hsz := (unhide Hb).size
    by_cases hlt : j < tv.length
    · obtain ⟨⟨t, v⟩, htj⟩ : ∃ t, tv[j]? = some t := ⟨tv[j], List.getElem?_eq_getElem hlt⟩
      obtain ⟨g, _, e1, hg, hg'⟩ := ownsRow_some (unhide H).txs.own (by omega)
      simp only [Value.slice.injEq, true_and] at e1
      obtain ⟨rfl, rfl⟩ := e1
      have h3 := three_get (fun x : Tn × Value => Value.int .i64 x.1.1) (fun x => .int .i64 x.1.2.1) (fun x => x.2) tv j (t, v) htj
      have hro := ownsRow_below (unhide H).txs.own (unhide Hb)
      have d0 := ownsRow_cell hro (j := j * 3) h3.1
      have d1 := ownsRow_cell hro (j := j * 3 + 1) h3.2.1
      have d2 := ownsRow_cell hro (j := j * 3 + 2) h3.2.2
      have hln := ((unhide H).kept (unhide Hb)).txs.lns _ (List.mem_of_getElem? htj)
      have hst : s.txs[j]? = some t := by rw [← unhide Hjr, List.getElem?_map, htj]; rfl
      have Hok := hide (good_ok (unhide H).good (List.mem_of_getElem? hst))
      have Hst := hide (fun x => jr_step (x := x) hst (unhide Hu))
      obtain ⟨ti, td, ls⟩ := t
      simp only at d0 d1 d2 hln
      obtain ⟨aol, capl, rfl⟩ := ownsRow_form hln
      have Hln := hide hln
      clear h3 hro hln hst htj
      by_cases hj0 : j = 0
      · subst hj0
        go_wp2_with fail
        refine (showTx_any ti td ls _ _ (unhide Hok) (by exact (LinesAt.of_own (unhide Hln)).kept ((Below.refl _ _).alloc (Nat.le_refl _) _)) ((unhide Ht).below (by exact (unhide Hb).alloc hsz _))).mono ?_
        rintro e w3 ⟨y, rfl, hy, hyz, hb3⟩
        have Hb3 : Hid (Below w.heap.size w w3) := ((unhide Hb).alloc hsz _).then' (by simp; omega) hb3
        have Hn := hide ((unhide Hst _ hy).1 (by simp))
        clear hy hb3
        go_wp2_with fail
        go_roundg (tv.length - (0 + 1))
        case measure => omega
        case rel => exact ⟨0 + 1, u ++ y, by omega, rfl, by go_num, rfl, by rw [ByteArray.size_append]; omega, by show _ = _; rw [L_append]; exact unhide Hn, unhide Hb3⟩
      · have hdd : decide ((0 : Int) < (j : Int)) = true := by simp; omega
        go_wp2_with fail
        refine (showTx_any ti td ls _ _ (unhide Hok) (by exact (LinesAt.of_own (unhide Hln)).kept ((Below.refl _ _).alloc (Nat.le_refl _) _)) ((unhide Ht).below (by exact (unhide Hb).alloc hsz _))).mono ?_
        rintro e w3 ⟨y, rfl, hy, hyz, hb3⟩
        have Hb3 : Hid (Below w.heap.size w w3) := ((unhide Hb).alloc hsz _).then' (by simp; omega) hb3
        have Hn := hide ((unhide Hst _ hy).2 (by omega))
        clear hy hb3
        go_wp2_with fail
        go_roundg (tv.length - (j + 1))
        case measure => omega
        case rel => exact ⟨j + 1, u ++ ⟨#[59]⟩ ++ y, by omega, rfl, by go_num, rfl, by rw [ByteArray.size_append, ByteArray.size_append]; show u.size + 1 + y.size ≤ _; omega, by show _ = _; rw [L_append, L_append]; exact unhide Hn, unhide Hb3⟩
    · obtain rfl : j = tv.length := by omega
      go_wp2_with fail
      go_ret
      refine ⟨u, rfl, ?_, unhide Hb⟩
      rw [unhide Hu, List.take_of_length_le (by unfold jrL; rw [List.length_map, ← unhide Hjr, List.length_map]; exact Nat.le_refl _)]; rfl

set_option maxHeartbeats 1000000 in
theorem dayJournal_any (B p : Nat) (s : Bk) (w : World) (h : Led w B p s) (ht : Tab w) :
    Calls Tryz.prog 20 #[.pointer (some ⟨p, 0, none⟩)] w fun e w' => ∃ u : ByteArray, e = .returned (.string u) ∧ L u = jrT s ∧ Below w.heap.size w w' := by
  have Hc := hide (ledJournal_any B p s w h ht)
  clear h ht
  go_enter Tryz.func20, Tryz.ntmps20
  go_wp2_with fail
  refine (unhide Hc).mono ?_
  rintro e w1 ⟨u, rfl, hu, hb⟩
  have Hu := hide hu
  have Hb := hide hb
  clear hu hb
  go_wp2_with fail
  go_ret
  exact ⟨u, rfl, unhide Hu, unhide Hb⟩

end Go.Proofs.YtdchbenfccofpaaGreatDoor
namespace Go.Proofs.YtdchbenfccofpaaGreatDoor
open Go.RowKit Db

theorem keptC {W W' : World} (h : Below W.heap.size W W') {a : Addr} {v : Value} (hc : W.cell? a = some v) : W'.cell? a = some v := by
  rw [h.cell (World.block_lt_of_cell? W a hc)]; exact hc

set_option maxRecDepth 100000 in
set_option maxHeartbeats 4000000 in
theorem recJournal_any (B p : Nat) (s : Bk) (w : World) (h : Rec w B p s) (ht : Tab w) :
    Calls Tryz.prog 101 #[.pointer (some ⟨p, 0, none⟩)] w fun e w' => ∃ u : ByteArray, e = .returned (.string u) ∧ L u = jrT s ∧ Below w.heap.size w w' := by
  obtain ⟨vp, vc, vt, tv, h⟩ := h
  obtain ⟨ao, cap, rfl⟩ := ownsRow_form h.txs.own
  have hlen : tv.length ≤ 64 := by have := h.good.posts; rw [← h.jr, List.length_map] at this; exact this
  have Hjr := hide h.jr
  have H := hide h
  have Ht := hide ht
  clear h ht
  go_enter Tryz.func101, Tryz.ntmps101
  go_wp2_with fail
  go_loopg [3, 4] tv.length (fun m vu i wr => ∃ j : Nat, ∃ u : ByteArray, j ≤ tv.length ∧ m = tv.length - j ∧ i = .int .i64 j ∧ vu = .string u ∧ u.size ≤ 230 * j ∧ Hid (L u = jn 59 ((jrL s).take j)) ∧ Hid (Below w.heap.size w wr))
  case atStart => exact ⟨0, ⟨#[]⟩, by omega, rfl, rfl, rfl, Nat.le_refl 0, rfl, Below.refl _ _⟩
  case round =>
    obtain ⟨j, u, hj, rfl, rfl, rfl, hus, Hu, Hb⟩ := hrel
    have hsz := (unhide Hb).size
    have H1 := hide ((unhide H).kept (unhide Hb))
    have c2 := (unhide H1).blk.cell 2
    simp only [List.getElem?_toArray, List.getElem?_cons_zero, List.getElem?_cons_succ] at c2
    by_cases hlt : j < tv.length
    · obtain ⟨⟨t, v⟩, htj⟩ : ∃ t, tv[j]? = some t := ⟨tv[j], List.getElem?_eq_getElem hlt⟩
      obtain ⟨g, _, e1, hg, hg'⟩ := ownsRow_some (unhide H1).txs.own (by omega)
      simp only [Value.slice.injEq, true_and] at e1
      obtain ⟨rfl, rfl⟩ := e1
      have h3 := three_get (fun x : Tn × Value => Value.int .i64 x.1.1) (fun x => .int .i64 x.1.2.1) (fun x => x.2) tv j (t, v) htj
      have d0 := ownsRow_cell (unhide H1).txs.own (j := j * 3) h3.1
      have d1 := ownsRow_cell (unhide H1).txs.own (j := j * 3 + 1) h3.2.1
      have d2 := ownsRow_cell (unhide H1).txs.own (j := j * 3 + 2) h3.2.2
      have hln := (unhide H1).txs.lns _ (List.mem_of_getElem? htj)
      have hst : s.txs[j]? = some t := by rw [← unhide Hjr, List.getElem?_map, htj]; rfl
      have hok := good_ok (unhide H).good (List.mem_of_getElem? hst)
      have Hst := hide (fun x => jr_step (x := x) hst (unhide Hu))
      obtain ⟨ti, td, ls⟩ := t
      obtain ⟨⟨i0, i1⟩, ⟨dd0, dd1⟩, h4, hlb⟩ := hok
      simp only at d0 d1 d2 hln i0 i1 dd0 dd1 h4 hlb
      obtain ⟨aol, capl, rfl⟩ := ownsRow_form hln
      have Hlb := hide hlb
      obtain ⟨W, hW⟩ : ∃ W, wr.alloc (.cells #[.int .i64 ti, .int .i64 td, .slice aol ls.length capl] 120) = W := ⟨_, rfl⟩
      obtain ⟨bx, hbx⟩ : ∃ bx, wr.heap.size = bx := ⟨_, rfl⟩
      have HB : Hid (Blk W bx #[.int .i64 ti, .int .i64 td, .slice aol ls.length capl] 120) := by rw [← hW, ← hbx]; exact Blk.new _ _ _
      have Hw : Hid (Below w.heap.size w W) := by rw [← hW]; exact (unhide Hb).alloc hsz _
      have HlW : Hid (LinesAt W (.slice aol ls.length capl) ls) := by rw [← hW]; exact (LinesAt.of_own hln).kept ((Below.refl _ _).alloc (Nat.le_refl _) _)
      have hWs : W.heap.size = bx + 1 := by rw [← hW, ← hbx]; simp
      have x0 := (unhide HB).cell 0
      have x1 := (unhide HB).cell 1
      simp only [List.getElem?_toArray, List.getElem?_cons_zero, List.getElem?_cons_succ] at x0 x1
      have HtW := hide ((unhide Ht).below (unhide Hw))
      -- the text ahead: a ; or nothing
      obtain ⟨u1, hu1, hz1, Hst1⟩ : ∃ u1 : ByteArray, (u1 = if j = 0 then u else u ++ ⟨#[59]⟩) ∧ u1.size ≤ 230 * j + 1 ∧ Hid (∀ x, x = txT (ti, td, ls) → L u1 ++ x = jn 59 ((jrL s).take (j + 1))) := by
        by_cases hj0 : j = 0
        · exact ⟨u, by rw [if_pos hj0], by omega, fun x hx => (unhide Hst x hx).1 hj0⟩
        · refine ⟨u ++ ⟨#[59]⟩, by rw [if_neg hj0], by rw [ByteArray.size_append]; show u.size + 1 ≤ _; omega, fun x hx => ?_⟩
          rw [L_append]
          exact (unhide Hst x hx).2 (by omega)
      clear h3 hln hst htj hlb Hst
      have hcase : (decide (0 < j) = true ∧ u1 = u ++ ⟨#[59]⟩) ∨ (decide (0 < j) = false ∧ u1 = u) := by
        by_cases hj0 : j = 0
        · rw [if_pos hj0] at hu1; exact .inr ⟨by simp; omega, hu1⟩
        · rw [if_neg hj0] at hu1; exact .inl ⟨by simp; omega, hu1⟩
      clear hu1
      rcases hcase with ⟨hbb0, hu1⟩ | ⟨hbb0, hu1⟩
      all_goals
        go_upto_region 8 with fail
        try rw [hW]
        try rw [hbx]
        try rw [← hu1]
        clear hu1
        go_region_held3 (fun w' => w'.cell? ⟨bx, 0, none⟩ = some (.int .i64 ti) ∧ w'.cell? ⟨bx, 1, none⟩ = some (.int .i64 td)) (first | go_keep | exact ⟨keptC hb3 (by simp [*]), keptC hb3 (by simp [*])⟩ | exact ⟨keptC hb2 (by simp [*]), keptC hb2 (by simp [*])⟩) (first | (go_at_call 29; first | (have hdone := hb2; refine (itoa_any _ _ (by omega) (by omega) (by exact ((unhide HtW).below (by exact (Below.refl _ _).drew)).below hb2)).mono ?_; rintro e w3 ⟨b, rfl, hb, hb3⟩; have hbz : b.size ≤ 21 := itoa_size (by omega) (by omega) hb; have hk3 : ¬ 9223372036854775807 < u1.size + a.size + 1 + b.size := (by omega)) | (refine (itoa_any _ _ (by omega) (by omega) (by exact (unhide HtW).below (by exact (Below.refl _ _).drew))).mono ?_; rintro e w2 ⟨a, rfl, ha, hb2⟩; have haz : a.size ≤ 21 := itoa_size (by omega) (by omega) ha; have hk1 : ¬ 9223372036854775807 < u1.size + a.size := (by omega); have hk2 : ¬ 9223372036854775807 < u1.size + a.size + 1 := (by omega))))
        have Hb3 := hide ((((Below.refl W.heap.size W).drew).then' (Nat.le_refl _) hb2).then' hb2.size hb3)
        have Ha := hide ha
        have Hbb := hide hb
        clear ha hb hb2 hb3 x0 x1
        go_wp2_with fail
        go_loopg [3, 6] ls.length (fun m vu i wx => ∃ q : Nat, ∃ y : ByteArray, q ≤ ls.length ∧ m = ls.length - q ∧ i = .int .i64 q ∧ vu = .string y ∧ y.size ≤ 230 * j + 44 + 44 * q ∧ Hid (L y = L u1 ++ prT ti td ++ lnT (ls.take q)) ∧ Hid (Below W.heap.size W wx))
        case atStart => exact ⟨0, u1 ++ a ++ ⟨#[58]⟩ ++ b, by omega, rfl, rfl, rfl, by rw [ByteArray.size_append, ByteArray.size_append, ByteArray.size_append]; show u1.size + a.size + 1 + b.size ≤ _; omega, by show _ = _; rw [L_append, L_append, L_append, unhide Ha, unhide Hbb]; simp [lnT, prT, L], unhide Hb3⟩
        case round =>
          obtain ⟨q, y, hq, rfl, rfl, rfl, hyz, Hy, Hb4⟩ := hrel
          have hsz4 := (unhide Hb4).size
          have HB4 := hide ((unhide HB).kept (unhide Hb4))
          have x2 := (unhide HB4).cell 2
          simp only [List.getElem?_toArray, List.getElem?_cons_zero, List.getElem?_cons_succ] at x2
          by_cases hlt2 : q < ls.length
          · obtain ⟨⟨la, lm⟩, hlj⟩ : ∃ l, ls[q]? = some l := ⟨ls[q], List.getElem?_eq_getElem hlt2⟩
            obtain ⟨_, bl, off, rfl, hbl, f1, f2⟩ := ((unhide HlW).kept (unhide Hb4)).line hlj
            have hbb := unhide Hlb _ (List.mem_of_getElem? hlj)
            have Hs2 := hide (lnT_step hlj)
            have Hf2 := hide (fun (wx : World) (hb : Below W.heap.size W wx) => (((unhide HlW).kept hb).line hlj))
            simp only at f1 f2 hbb Hs2
            clear hlj
            have HtX := hide ((unhide HtW).below (unhide Hb4))
            have hq4 : bl < wr.heap.size := hbl
            have hk0 : ¬ 9223372036854775807 < y.size + 1 := by omega
            go_upto_region 12 with fail
            go_region_held3 (fun w' => w'.cell? ⟨bx, 2, none⟩ = some (.slice (some ⟨bl, off, none⟩) ls.length capl) ∧ w'.cell? ⟨bl, off + q * 2, none⟩ = some (.int .i64 la) ∧ w'.cell? ⟨bl, off + q * 2 + 1, none⟩ = some (.int .i64 lm)) (first | go_keep | exact ⟨keptC hb6 (by simp [*]), keptC hb6 (by simp [*]), keptC hb6 (by simp [*])⟩ | exact ⟨keptC hb5 (by simp [*]), keptC hb5 (by simp [*]), keptC hb5 (by simp [*])⟩) (first | (go_at_call 29; first | (have hdone := hb5; refine (itoa_any _ _ (by omega) (by omega) (by exact ((unhide HtX).below (by exact (Below.refl _ _).drew)).below hb5)).mono ?_; rintro e w6 ⟨d, rfl, hd, hb6⟩; have hdz : d.size ≤ 21 := itoa_size (by omega) (by omega) hd; have hk3 : ¬ 9223372036854775807 < y.size + 1 + c.size + 1 + d.size := (by omega)) | (refine (itoa_any _ _ (by omega) (by omega) (by exact (unhide HtX).below (by exact (Below.refl _ _).drew))).mono ?_; rintro e w5 ⟨c, rfl, hc, hb5⟩; have hcz : c.size ≤ 21 := itoa_size (by omega) (by omega) hc; have hk1 : ¬ 9223372036854775807 < y.size + 1 + c.size := (by omega); have hk2 : ¬ 9223372036854775807 < y.size + 1 + c.size + 1 := (by omega))))
            have Hb6 := hide ((unhide Hb4).then (((Below.refl _ _).drew).then' (Nat.le_refl _) hb5 |>.then' hb5.size hb6))
            have Hc := hide hc
            have Hd := hide hd
            clear hc hd hb5 hb6 x2 f1 f2
            go_wp2_with fail
            go_roundg (ls.length - (q + 1))
            case measure => omega
            case rel => exact ⟨q + 1, y ++ ⟨#[44]⟩ ++ c ++ ⟨#[58]⟩ ++ d, by omega, rfl, by go_num, rfl, by rw [ByteArray.size_append, ByteArray.size_append, ByteArray.size_append, ByteArray.size_append]; show y.size + 1 + c.size + 1 + d.size ≤ _; omega, by show _ = _; rw [L_append, L_append, L_append, L_append, unhide Hy, unhide Hc, unhide Hd, unhide Hs2]; simp [prT, L], unhide Hb6⟩
          · obtain rfl : q = ls.length := by omega
            have Hfin : Hid (L y = jn 59 ((jrL s).take (j + 1))) := by
              show _ = _
              rw [unhide Hy, List.take_length, List.append_assoc]
              exact unhide Hst1 _ rfl
            go_wp2_with fail
            go_roundg (tv.length - (j + 1))
            case measure => omega
            case rel => exact ⟨j + 1, y, by omega, rfl, by go_num, rfl, by omega, unhide Hfin, (unhide Hw).then' (by omega) (unhide Hb4)⟩
    · obtain rfl : j = tv.length := by omega
      go_wp2_with fail
      go_ret
      refine ⟨u, rfl, ?_, unhide Hb⟩
      rw [unhide Hu, List.take_of_length_le (by unfold jrL; rw [List.length_map, ← unhide Hjr, List.length_map]; exact Nat.le_refl _)]; rfl


end Go.Proofs.YtdchbenfccofpaaGreatDoor
namespace Go.Proofs.YtdchbenfccofpaaGreatDoor
open Go.RowKit Db

set_option maxRecDepth 100000 in
set_option maxHeartbeats 2000000 in
theorem tells_any (B B' q p : Nat) (s : Bk) (w : World) (h : Rec w B q s) (hl : Led w B' p s) (ht : Tab w) :
    Calls Tryz.prog 64 #[.pointer (some ⟨q, 0, none⟩), .pointer (some ⟨p, 0, none⟩)] w fun e w' => e = .returned (.bool true) ∧ Below w.heap.size w w' := by
  have H := hide h
  have Ht := hide ht
  have Hl : Hid (∀ wx, Below w.heap.size w wx → Led wx B' p s) := by
    intro wx hb
    obtain ⟨va, vt, tv, dk, h1⟩ := hl
    exact ⟨_, _, _, _, h1.kept hb⟩
  clear h ht hl
  go_enter Tryz.func64, Tryz.ntmps64
  go_wp2_with fail
  refine (dayAccounts_any B' p s _ (unhide Hl _ (Below.refl _ _)) (unhide Ht)).mono ?_
  rintro e w1 ⟨u1, rfl, hu1, hb1⟩
  have Hb1 := hide hb1
  have Hu1 := hide hu1
  clear hb1 hu1
  go_wp2_with fail
  refine (dayJournal_any B' p s _ (unhide Hl _ (unhide Hb1)) ((unhide Ht).below (unhide Hb1))).mono ?_
  rintro e w2 ⟨u2, rfl, hu2, hb2⟩
  have Hb2 := hide ((unhide Hb1).then hb2)
  have Hu2 := hide hu2
  clear hb2 hu2
  go_wp2_with fail
  refine (recAccounts_any B q s _ ((unhide H).kept (unhide Hb2)) ((unhide Ht).below (unhide Hb2))).mono ?_
  rintro e w3 ⟨u3, rfl, hu3, hb3⟩
  obtain rfl : u3 = u1 := L_inj (hu3.trans (unhide Hu1).symm)
  have Hb3 := hide ((unhide Hb2).then hb3)
  clear hb3 hu3
  go_wp2_with fail
  refine (recJournal_any B q s _ ((unhide H).kept (unhide Hb3)) ((unhide Ht).below (unhide Hb3))).mono ?_
  rintro e w4 ⟨u4, rfl, hu4, hb4⟩
  obtain rfl : u4 = u2 := L_inj (hu4.trans (unhide Hu2).symm)
  have Hb4 := hide ((unhide Hb3).then hb4)
  clear hb4 hu4
  go_wp2_with fail
  go_ret
  exact ⟨rfl, unhide Hb4⟩

end Go.Proofs.YtdchbenfccofpaaGreatDoor
namespace Go.Proofs.YtdchbenfccofpaaGreatDoor
open Go.RowKit Db

theorem made_zero (m : Nat) : (madeCells #[.int .i64 0, .int .i64 0] m).toList = List.replicate m (.int .i64 0) := by
  apply List.ext_getElem
  · rw [Array.length_toList, size_madeCells, List.length_replicate]
  · intro i h1 h2
    rw [List.getElem_replicate, Array.getElem_toList]
    simp only [madeCells, Array.getElem_map, Array.getElem_range]
    rcases Nat.mod_two_eq_zero_or_one i with h | h
    · show (#[Value.int .i64 0, .int .i64 0])[i % 2]! = _
      rw [h]; rfl
    · show (#[Value.int .i64 0, .int .i64 0])[i % 2]! = _
      rw [h]; rfl

/-- The list that is handed over, in its block: the lines, and two of the caller's in its spare room. -/
def spare4 (a b c d : Int) : List Value := [.int .i64 a, .int .i64 b, .int .i64 c, .int .i64 d]
def hcells (ls : List Ln) : Array Value := (cellsL ls ++ spare4 77 0 0 77).toArray
theorem hcells_size (ls : List Ln) : (hcells ls).size = (ls.length + 2) * 2 := by simp [hcells, spare4, cellsL_length]; omega
theorem spare_get (ls : List Ln) (a b c d : Int) : (cellsL ls ++ spare4 a b c d).toArray[ls.length * 2]? = some (.int .i64 a) ∧ (cellsL ls ++ spare4 a b c d).toArray[ls.length * 2 + 1]? = some (.int .i64 b) ∧ (cellsL ls ++ spare4 a b c d).toArray[(ls.length + 1) * 2]? = some (.int .i64 c) ∧ (cellsL ls ++ spare4 a b c d).toArray[(ls.length + 1) * 2 + 1]? = some (.int .i64 d) := by
  have h := cellsL_length ls
  refine ⟨?_, ?_, ?_, ?_⟩ <;> (rw [List.getElem?_toArray, List.getElem?_append_right (by omega), h])
  · rw [show ls.length * 2 - ls.length * 2 = 0 by omega]; rfl
  · rw [show ls.length * 2 + 1 - ls.length * 2 = 1 by omega]; rfl
  · rw [show (ls.length + 1) * 2 - ls.length * 2 = 2 by omega]; rfl
  · rw [show (ls.length + 1) * 2 + 1 - ls.length * 2 = 3 by omega]; rfl
theorem spare_set (ls : List Ln) : ((((cellsL ls ++ spare4 0 0 0 0).toArray.setIfInBounds (ls.length * 2) (.int .i64 77)).setIfInBounds (ls.length * 2 + 1) (.int .i64 0)).setIfInBounds ((ls.length + 1) * 2) (.int .i64 0)).setIfInBounds ((ls.length + 1) * 2 + 1) (.int .i64 77) = hcells ls := by
  have h := cellsL_length ls
  apply Array.toList_inj.1
  simp only [Array.toList_setIfInBounds, hcells]
  have hs : ∀ (i : Nat) (l : List Value) (x : Value), (cellsL ls ++ l).set (ls.length * 2 + i) x = cellsL ls ++ l.set i x := by
    intro i l x
    rw [List.set_append_right _ _ (by omega), h, show ls.length * 2 + i - ls.length * 2 = i by omega]
  rw [show ls.length * 2 = ls.length * 2 + 0 from rfl, hs 0, show ls.length * 2 + 0 + 1 = ls.length * 2 + 1 from rfl, hs 1, show (ls.length + 1) * 2 = ls.length * 2 + 2 by omega, hs 2, show ls.length * 2 + 2 + 1 = ls.length * 2 + 3 from rfl, hs 3]
  rfl
theorem handed_copied {w w3 : World} {ls : List Ln} (hg3 : w3.heap[w.heap.size]? = some (.cells (cellsL ls ++ (madeCells #[.int .i64 0, .int .i64 0] ((ls.length + 2) * 2)).toList.drop (cellsL ls).length).toArray 89 (0, 0))) :
    Blk w3 w.heap.size (cellsL ls ++ spare4 0 0 0 0).toArray 89 := by
  unfold Blk
  rw [hg3, made_zero, cellsL_length, List.drop_replicate, show (ls.length + 2) * 2 - ls.length * 2 = 4 by omega]
  rfl
theorem LinesAt.of_handed {w : World} {g cap : Nat} {ls : List Ln} (h : Blk w g (hcells ls) 89) : LinesAt w (.slice (some ⟨g, 0, none⟩) ls.length cap) ls := by
  refine ⟨_, _, rfl, .inr ⟨g, 0, rfl, h.lt, fun i l hl => ?_⟩⟩
  have h2 := two_get (fun x : Ln => Value.int .i64 x.1) (fun x => .int .i64 x.2) ls i l hl
  have hi := (List.getElem?_eq_some_iff.1 hl).1
  have hlen := cellsL_length ls
  rw [Nat.zero_add, h.cell, h.cell]
  simp only [hcells, List.getElem?_toArray]
  rw [List.getElem?_append_left (by omega), List.getElem?_append_left (by omega)]
  exact h2

set_option maxRecDepth 100000 in
set_option maxHeartbeats 4000000 in
theorem handed_any (v : Value) (ls : List Ln) (w : World) (h : LinesAt w v ls) (hn : ls.length ≤ 8796093022000) :
    Calls Tryz.prog 121 #[v] w fun e w' => e = .returned (.slice (some ⟨w.heap.size, 0, none⟩) ls.length (ls.length + 2)) ∧ Blk w' w.heap.size (hcells ls) 89 ∧ Below w.heap.size w w' := by
  obtain ⟨ao, cap, rfl, hr⟩ := h
  have hmk : ∀ w : World, (Instr.makeSlice 31 (.int .i64 ((ls.length : Int) + 2)) (.int .i64 ((ls.length : Int) + 2))).run Tryz.prog w = .ok (.slice (some ⟨w.heap.size, 0, none⟩) (ls.length + 2) (ls.length + 2)) (w.alloc (.cells (madeCells #[.int .i64 0, .int .i64 0] ((ls.length + 2) * 2)) 89)) := by
    intro w
    have := run_make2 (ls.length + 2) (by omega) w
    rw [show (((ls.length + 2 : Nat)) : Int) = (ls.length : Int) + 2 by omega] at this
    exact this
  have hwr : IntKind.i64.wrap ((ls.length : Int) + 2) = (ls.length : Int) + 2 := by rw [IntKind.wrap_i64]; omega
  have hwr1 : IntKind.i64.wrap ((ls.length : Int) + 1) = (ls.length : Int) + 1 := by rw [IntKind.wrap_i64]; omega
  have Hsrc : Hid (ls.length = 0 ∨ ∃ ad', ao = some ad' ∧ ∀ j u, (cellsL ls)[j]? = some u → (w.alloc (.cells (madeCells #[.int .i64 0, .int .i64 0] ((ls.length + 2) * 2)) 89)).cell? (ad'.add j) = some u) := by
    rcases hr with rfl | ⟨b, off, rfl, hbl, hcs⟩
    · exact .inl rfl
    · refine .inr ⟨⟨b, off, none⟩, rfl, fun j u hju => ?_⟩
      rw [← lines_cells hcs j u hju, Addr.add_lit]
      exact ((Below.refl _ w).alloc (Nat.le_refl _) _).cell (p := ⟨b, off + j, none⟩) hbl
  have tq1 : ((ls.length : Int) + 1).toNat = ls.length + 1 := by omega
  have lq1 : (0 : Int) ≤ (ls.length : Int) + 1 := by omega
  have lq2 : (ls.length : Int) + 1 < (ls.length : Int) + 2 := by omega
  have lq3 : (ls.length : Int) < (ls.length : Int) + 2 := by omega
  clear hr
  go_enter Tryz.func121, Tryz.ntmps121
  go_upto_region 3 with fail
  go_upto_region 4 with (first
    | (refine wpList_copy2 rfl (.tmp 10) (.tmp 11) 31 31 rfl 89 Tryz.underlying31 (by kernel_rfl) w.heap.size (ls.length + 2) (ls.length + 2) ao ls.length cap rfl rfl (madeCells #[.int .i64 0, .int .i64 0] ((ls.length + 2) * 2)) 89 (heap_alloc_new _ _) (cellsL ls) (cellsL_length ls) (by omega) (unhide Hsrc) (by rw [size_madeCells, cellsL_length]; omega) (cellsL_one ls) ?_; intro w3 hg3 ho3 hs3 os3 tp3 ou3; have HB3 := hide (handed_copied hg3); have Hb3 : Hid (Below w.heap.size w w3) := ⟨os3, tp3, ou3, (by rw [hs3]; simp), (fun k hk => by rw [ho3 k (by omega)]; exact Below.heap_alloc _ _ _ hk)⟩; have q0 := ((unhide HB3).cell (ls.length * 2)).trans (spare_get ls 0 0 0 0).1; have q1 := ((unhide HB3).cell (ls.length * 2 + 1)).trans (spare_get ls 0 0 0 0).2.1; have q2 := ((unhide HB3).cell ((ls.length + 1) * 2)).trans (spare_get ls 0 0 0 0).2.2.1; have q3 := ((unhide HB3).cell ((ls.length + 1) * 2 + 1)).trans (spare_get ls 0 0 0 0).2.2.2; have z0 := (unhide HB3).frozen (ls.length * 2); have z1 := (unhide HB3).frozen (ls.length * 2 + 1); have z2 := (unhide HB3).frozen ((ls.length + 1) * 2); have z3 := (unhide HB3).frozen ((ls.length + 1) * 2 + 1); clear hg3 ho3 hs3 os3 tp3 ou3))
  go_wp2_with fail
  go_ret
  refine ⟨rfl, ?_, ?_⟩
  · have hb := ((((unhide HB3).set (ls.length * 2) (.int .i64 77)).set (ls.length * 2 + 1) (.int .i64 0)).set ((ls.length + 1) * 2) (.int .i64 0)).set ((ls.length + 1) * 2 + 1) (.int .i64 77)
    rw [spare_set] at hb
    exact hb
  · exact ((((unhide Hb3).setCell (by simp) _).setCell (by simp) _).setCell (by simp) _).setCell (by simp) _

end Go.Proofs.YtdchbenfccofpaaGreatDoor
namespace Go.Proofs.YtdchbenfccofpaaGreatDoor
open Go.RowKit Db

theorem copied_blk {w w3 : World} {ls : List Ln} (hg3 : w3.heap[w.heap.size]? = some (.cells (cellsL ls ++ (madeCells #[.int .i64 0, .int .i64 0] (ls.length * 2)).toList.drop (cellsL ls).length).toArray 89 (0, 0))) :
    Blk w3 w.heap.size (cellsL ls).toArray 89 := by
  unfold Blk
  rw [hg3, made_zero, cellsL_length, List.drop_replicate, show ls.length * 2 - ls.length * 2 = 0 by omega]
  simp
theorem LinesAt.of_blk {w : World} {g cap : Nat} {ls : List Ln} (h : Blk w g (cellsL ls).toArray 89) : LinesAt w (.slice (some ⟨g, 0, none⟩) ls.length cap) ls := by
  refine ⟨_, _, rfl, .inr ⟨g, 0, rfl, h.lt, fun i l hl => ?_⟩⟩
  have h2 := two_get (fun x : Ln => Value.int .i64 x.1) (fun x => .int .i64 x.2) ls i l hl
  rw [Nat.zero_add, h.cell, h.cell]
  simp only [List.getElem?_toArray]
  exact h2

set_option maxRecDepth 100000 in
set_option maxHeartbeats 4000000 in
theorem copied_any (v : Value) (ls : List Ln) (w : World) (h : LinesAt w v ls) (hn : ls.length ≤ 8796093022000) :
    Calls Tryz.prog 68 #[v] w fun e w' => e = .returned (.slice (some ⟨w.heap.size, 0, none⟩) ls.length ls.length) ∧ Blk w' w.heap.size (cellsL ls).toArray 89 ∧ Below w.heap.size w w' := by
  obtain ⟨ao, cap, rfl, hr⟩ := h
  have hmk := run_make2 ls.length (by omega)
  have Hsrc : Hid (ls.length = 0 ∨ ∃ ad', ao = some ad' ∧ ∀ j u, (cellsL ls)[j]? = some u → (w.alloc (.cells (madeCells #[.int .i64 0, .int .i64 0] (ls.length * 2)) 89)).cell? (ad'.add j) = some u) := by
    rcases hr with rfl | ⟨b, off, rfl, hbl, hcs⟩
    · exact .inl rfl
    · refine .inr ⟨⟨b, off, none⟩, rfl, fun j u hju => ?_⟩
      rw [← lines_cells hcs j u hju, Addr.add_lit]
      exact ((Below.refl _ w).alloc (Nat.le_refl _) _).cell (p := ⟨b, off + j, none⟩) hbl
  clear hr
  go_enter Tryz.func68, Tryz.ntmps68
  go_upto_region 2 with fail
  go_upto_region 3 with (first
    | (refine wpList_copy2 rfl (.tmp 7) (.tmp 8) 31 31 rfl 89 Tryz.underlying31 (by kernel_rfl) w.heap.size ls.length ls.length ao ls.length cap rfl rfl (madeCells #[.int .i64 0, .int .i64 0] (ls.length * 2)) 89 (heap_alloc_new _ _) (cellsL ls) (cellsL_length ls) (Nat.le_refl _) (unhide Hsrc) (by rw [size_madeCells, cellsL_length]; exact Nat.le_refl _) (cellsL_one ls) ?_; intro w3 hg3 ho3 hs3 os3 tp3 ou3; have HB3 := hide (copied_blk hg3); have Hb3 : Hid (Below w.heap.size w w3) := ⟨os3, tp3, ou3, (by rw [hs3]; simp), (fun k hk => by rw [ho3 k (by omega)]; exact Below.heap_alloc _ _ _ hk)⟩; clear hg3 ho3 hs3 os3 tp3 ou3))
  go_wp2_with fail
  go_ret
  exact ⟨rfl, unhide HB3, unhide Hb3⟩

end Go.Proofs.YtdchbenfccofpaaGreatDoor
namespace Go.Proofs.YtdchbenfccofpaaGreatDoor
open Go.RowKit Db

/-- A number in six bytes, the lowest first, lifted by the greatest amount. -/
def nB (n : Int) : List UInt8 := (List.range 6).map fun i => UInt8.ofNat ((n + 1000000000000).toNat / 256 ^ i % 256)
theorem nB_length (n : Int) : (nB n).length = 6 := by simp [nB]
theorem nB_get (n : Int) {j : Nat} (h : j < 6) : (nB n)[j]? = some (UInt8.ofNat ((n + 1000000000000).toNat / 256 ^ j % 256)) := by
  unfold nB
  rw [List.getElem?_map, List.getElem?_range h]
  rfl
def cellsU (l : List UInt8) : List Value := l.map fun c => .int .u8 (c.toNat : Int)
theorem cellsU_take {n : Int} {j : Nat} (h : j < 6) : cellsU ((nB n).take (j + 1)) = cellsU ((nB n).take j) ++ [.int .u8 (((n + 1000000000000).toNat / 256 ^ j % 256 : Nat) : Int)] := by
  unfold cellsU
  rw [List.take_add_one, nB_get n h]
  simp
theorem conv_bytes (l : List UInt8) (W : World) (B : Nat) (v : Value) (h : W.ownsRow B 5 1 v l.length (cellsU l)) (hn : 0 < l.length) : (convert 187 9 v).run Tryz.prog W = .ok (.string ⟨l.toArray⟩) W := by
  obtain ⟨g, cap, rfl, hg, hg'⟩ := ownsRow_some h hn
  exact run_convert_bytes_back (P := Tryz.prog) W 187 9 5 ⟨g, 0, none⟩ cap l Tryz.underlying187 Tryz.underlying5 Tryz.underlying9 (fun j hj => by
    rw [Addr.add_lit, Nat.zero_add]
    exact ownsRow_cell h (j := j) (by simp [cellsU, hj]))
theorem info_u8 : (Tryz.prog.info? 5).map (fun i => (i.zero, i.size, i.bytes)) = some (some (.int .u8 0), 1, 1) := by kernel_rfl

set_option maxRecDepth 100000 in
set_option maxHeartbeats 2000000 in
theorem numberText_any (n : Int) (w : World) (h0 : -1000000000000 ≤ n) (h1 : n ≤ 1000000000000) :
    Calls Tryz.prog 184 #[.int .i64 n] w fun e w' => e = .returned (.string ⟨(nB n).toArray⟩) ∧ Below w.heap.size w w' := by
  obtain ⟨ii, hi, hz0, hz1, hz2⟩ := info_parts info_u8
  obtain ⟨x, hx⟩ : ∃ x : Nat, n + 1000000000000 = (x : Int) := ⟨(n + 1000000000000).toNat, by omega⟩
  have hxn : (n + 1000000000000).toNat = x := by omega
  have hxl : x ≤ 2000000000000 := by omega
  have Hcut := hide (fun (j : Nat) (h : j < 6) => cellsU_take (n := n) h)
  rw [hxn] at Hcut
  go_enter Tryz.func184, Tryz.ntmps184
  go_wp2_with fail
  go_loopg [3, 4, 5] 6 (fun m vr vb vi wr => ∃ j y : Nat, j ≤ 6 ∧ m = 6 - j ∧ vi = .int .i64 j ∧ vr = .int .i64 (y : Int) ∧ y ≤ 2000000000000 ∧ Hid (y = x / 256 ^ j) ∧ Hid (wr.ownsRow w.heap.size 5 1 vb j (cellsU ((nB n).take j))) ∧ Hid (Below w.heap.size w wr))
  case atStart => exact ⟨0, x, by omega, rfl, rfl, by rw [← hx], hxl, by simp [Hid], World.ownsRow_nil _ _ _ _, Below.refl _ _⟩
  case round =>
    obtain ⟨j, y, hj, rfl, rfl, rfl, hyl, Hy, Ho, Hb⟩ := hrel
    have hsz := (unhide Hb).size
    by_cases hlt : j < 6
    · have Hc := hide (unhide Hcut j hlt)
      have hnn : (0 : Int) ≤ (y : Int) := by omega
      obtain ⟨ao, cap, rfl⟩ := ownsRow_form (unhide Ho)
      go_wp2_with (first
        | (at_builtin; refine wpList_append_own _ rfl (.tmp 12) (.tmp 16) 187 rfl w.heap.size 5 ii (.int .u8 0) 1 1 Tryz.underlying187 hi hz0 hz1 hz2 rfl (by decide) _ j _ rfl ((unhide Ho).alloc _) ⟨wr.heap.size, 0, none⟩ 1 1 [.int .u8 ((y % 256 : Nat) : Int)] rfl rfl (new1 _ _ (by simp) _ _) (fun x hx => by simp at hx; subst hx; rfl) (by unfold maxLen; omega) (by omega) (by simp; omega) ?_; intro vq' w5 hown5 hgr5 _; obtain ⟨gf, cf, rfl, hgf, hgf'⟩ := ownsRow_some hown5 (Nat.succ_pos _); have Hown5 := hide hown5; have Hgr5 := hide hgr5; clear hown5 hgr5))
      go_roundg (6 - (j + 1))
      case measure => omega
      case rel =>
        refine ⟨j + 1, y / 256, by omega, rfl, by go_num, by simp, by omega, ?_, ?_, ?_⟩
        · show _ = _
          rw [unhide Hy, Nat.div_div_eq_div_mul, Nat.pow_succ]
        · show World.ownsRow _ _ _ _ _ _ _
          rw [unhide Hc, ← unhide Hy]
          exact unhide Hown5
        · exact ((unhide Hb).alloc hsz _).grown (unhide Hgr5) (by simp; omega) (fun k hk => (ownsRow_tg (unhide Ho) k hk).1)
    · obtain rfl : j = 6 := by omega
      have hcv := conv_bytes (nB n) wr w.heap.size _ (by rw [nB_length]; have := unhide Ho; rw [List.take_of_length_le (by rw [nB_length]; omega)] at this; exact this) (by rw [nB_length]; omega)
      go_wp2_with fail
      go_ret
      exact ⟨rfl, unhide Hb⟩

end Go.Proofs.YtdchbenfccofpaaGreatDoor
namespace Go.Proofs.YtdchbenfccofpaaGreatDoor
open Go.RowKit Db

/-- A record's bytes, and up to the end of the sector noughts. -/
def secH (k : Nat) (n d : Int) (m : Nat) : List UInt8 := [UInt8.ofNat k, UInt8.ofNat m] ++ nB n ++ nB d
def lnB (ls : List Ln) : List UInt8 := ls.flatMap fun l => nB l.1 ++ nB l.2
def secP (k : Nat) (n d : Int) (ls : List Ln) : List UInt8 := secH k n d ls.length ++ lnB ls
def secL (k : Nat) (n d : Int) (ls : List Ln) : List UInt8 := secP k n d ls ++ List.replicate (64 - (secP k n d ls).length) 0
def secB (k : Nat) (n d : Int) (ls : List Ln) : ByteArray := ⟨(secL k n d ls).toArray⟩
def AmtOk (n : Int) : Prop := -1000000000000 ≤ n ∧ n ≤ 1000000000000
theorem lnB_length (ls : List Ln) : (lnB ls).length = 12 * ls.length := by
  induction ls with
  | nil => rfl
  | cons l r ih => unfold lnB at ih ⊢; simp [nB_length] at ih ⊢; omega
theorem secH_length (k : Nat) (n d : Int) (m : Nat) : (secH k n d m).length = 14 := by simp [secH, nB_length]
theorem secP_length (k : Nat) (n d : Int) (ls : List Ln) : (secP k n d ls).length = 14 + 12 * ls.length := by simp [secP, secH_length, lnB_length]
theorem secL_length (k : Nat) (n d : Int) (ls : List Ln) (h : ls.length ≤ 4) : (secL k n d ls).length = 64 := by
  unfold secL; rw [List.length_append, List.length_replicate, secP_length]; omega
theorem lnB_take {ls : List Ln} {j : Nat} {l : Ln} (h : ls[j]? = some l) : lnB (ls.take (j + 1)) = lnB (ls.take j) ++ nB l.1 ++ nB l.2 := by
  unfold lnB; rw [List.take_add_one, h]; simp
theorem L_ext {u v : ByteArray} (h : L u = L v) : u = v := by
  cases u; cases v; unfold L at h; simp at h; rw [h]

theorem number_any (n : Int) (w : World) (h : AmtOk n) :
    Calls Tryz.prog 184 #[.int .i64 n] w fun e w' => ∃ u : ByteArray, e = .returned (.string u) ∧ L u = nB n ∧ u.size = 6 ∧ Below w.heap.size w w' := by
  refine (numberText_any n w h.1 h.2).mono ?_
  rintro e w1 ⟨rfl, hb⟩
  exact ⟨_, rfl, L_list _, by rw [size_L, L_list, nB_length], hb⟩

set_option maxRecDepth 100000 in
set_option maxHeartbeats 4000000 in
theorem sector_any (k : Nat) (n d : Int) (v : Value) (ls : List Ln) (w : World) (hk : k < 256) (hn : AmtOk n) (hd : AmtOk d) (hl : LinesAt w v ls) (h4 : ls.length ≤ 4) (hls : ∀ l ∈ ls, AmtOk l.1 ∧ AmtOk l.2) :
    Calls Tryz.prog 139 #[.agg #[.int .u8 (k : Int), .int .i64 n, .int .i64 d, v]] w fun e w' => e = .returned (.string (secB k n d ls)) ∧ Below w.heap.size w w' := by
  obtain ⟨ao, cap, rfl⟩ := hl.form
  obtain ⟨W, hW⟩ : ∃ W, w.alloc (.cells #[.int .u8 (k : Int), .int .i64 n, .int .i64 d, .slice ao ls.length cap] 173) = W := ⟨_, rfl⟩
  have hcv : (convert 187 9 (.slice (some ⟨w.heap.size + 1, 0, none⟩) 2 2)).run Tryz.prog (W.alloc (.cells #[.int .u8 (k : Int), .int .u8 (ls.length : Int)] 5)) = .ok (.string ⟨#[UInt8.ofNat k, UInt8.ofNat ls.length]⟩) (W.alloc (.cells #[.int .u8 (k : Int), .int .u8 (ls.length : Int)] 5)) := by
    have hs : W.heap.size = w.heap.size + 1 := by rw [← hW]; simp
    have hb := Blk.new W #[.int .u8 (k : Int), .int .u8 (ls.length : Int)] 5
    rw [hs] at hb
    exact run_convert_bytes_back (P := Tryz.prog) _ 187 9 5 ⟨w.heap.size + 1, 0, none⟩ 2 [UInt8.ofNat k, UInt8.ofNat ls.length] Tryz.underlying187 Tryz.underlying5 Tryz.underlying9 (fun j hj => by
      rw [Addr.add_lit, Nat.zero_add, hb.cell]
      rcases j with _ | _ | j
      · simp; omega
      · simp; omega
      · simp at hj; omega)
  have HX : Hid (Blk W w.heap.size #[.int .u8 (k : Int), .int .i64 n, .int .i64 d, .slice ao ls.length cap] 173) := by rw [← hW]; exact Blk.new _ _ _
  have Hb0 : Hid (Below w.heap.size w W) := by rw [← hW]; exact (Below.refl _ _).alloc (Nat.le_refl _) _
  have hWs : W.heap.size = w.heap.size + 1 := by rw [← hW]; simp
  have Hl := hide hl
  have Hls := hide hls
  have Hn := hide hn
  have Hd := hide hd
  have hwr : IntKind.u8.wrap (ls.length : Int) = (ls.length : Int) := by rw [IntKind.wrap_u8]; omega
  have x0 := (unhide HX).cell 0
  have x1 := (unhide HX).cell 1
  have x3 := (unhide HX).cell 3
  simp only [List.getElem?_toArray, List.getElem?_cons_zero, List.getElem?_cons_succ] at x0 x1 x3
  clear hl hls hn hd
  go_enter Tryz.func139, Tryz.ntmps139
  go_wp2_with fail
  try rw [hW]
  refine (number_any n _ (unhide Hn)).mono ?_
  rintro e w1 ⟨t1, rfl, ht1, hs1, hb1⟩
  have HX1 := hide (((unhide HX).alloc _).kept hb1)
  have Hb1 : Hid (Below w.heap.size w w1) := ((unhide Hb0).alloc (by omega) _).then' (by simp; omega) hb1
  have Ht1 := hide ht1
  have x2 := (unhide HX1).cell 2
  simp only [List.getElem?_toArray, List.getElem?_cons_zero, List.getElem?_cons_succ] at x2
  clear hb1 ht1 x0 x1 x3 hcv
  have hsz1 : (⟨#[UInt8.ofNat k, UInt8.ofNat ls.length]⟩ : ByteArray).size = 2 := rfl
  go_wp2_with fail
  refine (number_any d _ (unhide Hd)).mono ?_
  rintro e w2 ⟨t2, rfl, ht2, hs2, hb2⟩
  have HX2 := hide ((unhide HX1).kept hb2)
  have Hb2 : Hid (Below w.heap.size w w2) := (unhide Hb1).then hb2
  obtain ⟨u0, hu0⟩ : ∃ u0, (⟨#[UInt8.ofNat k, UInt8.ofNat ls.length]⟩ : ByteArray) ++ t1 ++ t2 = u0 := ⟨_, rfl⟩
  have Hu0 : Hid (L u0 = secH k n d ls.length ∧ u0.size = 14) := by
    have hL : L u0 = secH k n d ls.length := by rw [← hu0, L_append, L_append, unhide Ht1, ht2]; rfl
    exact ⟨hL, by rw [size_L, hL, secH_length]⟩
  have hs12 : ((⟨#[UInt8.ofNat k, UInt8.ofNat ls.length]⟩ : ByteArray) ++ t1).size = 8 := by rw [ByteArray.size_append]; omega
  have x3 := (unhide HX2).cell 3
  simp only [List.getElem?_toArray, List.getElem?_cons_zero, List.getElem?_cons_succ] at x3
  clear hb2 ht2 x2
  go_wp2_with fail
  try rw [hu0]
  go_loopg [3, 27] ls.length (fun m vt vi wr => ∃ j : Nat, ∃ u : ByteArray, j ≤ ls.length ∧ m = ls.length - j ∧ vi = .int .i64 j ∧ vt = .string u ∧ u.size = 14 + 12 * j ∧ Hid (L u = secH k n d ls.length ++ lnB (ls.take j)) ∧ Hid (Below w.heap.size w wr))
  case atStart => exact ⟨0, u0, by omega, rfl, rfl, rfl, (unhide Hu0).2, by show _ = _; rw [(unhide Hu0).1]; simp [lnB], unhide Hb2⟩
  case round =>
    obtain ⟨j, u, hj, rfl, rfl, rfl, hus, Hu, Hb⟩ := hrel
    have hsz := (unhide Hb).size
    by_cases hlt : j < ls.length
    · obtain ⟨⟨la, lm⟩, hlj⟩ : ∃ l, ls[j]? = some l := ⟨ls[j], List.getElem?_eq_getElem hlt⟩
      obtain ⟨_, b, off, rfl, hbl, d1, d2⟩ := ((unhide Hl).kept (unhide Hb)).line hlj
      have Hok := hide (unhide Hls _ (List.mem_of_getElem? hlj))
      have Hst := hide (lnB_take hlj)
      simp only at d1 d2 Hst Hok
      clear hlj
      go_wp2_with fail
      refine (number_any la _ (unhide Hok).1).mono ?_
      rintro e w3 ⟨t3, rfl, ht3, hs3, hb3⟩
      have Hb3 : Hid (Below w.heap.size w w3) := ((unhide Hb).alloc hsz _).then' (by simp; omega) hb3
      have k1 := hb3.cell (p := ⟨wr.heap.size, 1, none⟩) (by simp)
      simp at k1
      have Ht3 := hide ht3
      clear hb3 ht3
      go_wp2_with fail
      refine (number_any lm _ (unhide Hok).2).mono ?_
      rintro e w4 ⟨t4, rfl, ht4, hs4, hb4⟩
      have Hb4 : Hid (Below w.heap.size w w4) := (unhide Hb3).then hb4
      have Ht4 := hide ht4
      clear hb4 ht4
      have hs34 : (u ++ t3).size = 20 + 12 * j := by rw [ByteArray.size_append]; omega
      go_wp2_with fail
      go_roundg (ls.length - (j + 1))
      case measure => omega
      case rel => exact ⟨j + 1, u ++ t3 ++ t4, by omega, rfl, by go_num, rfl, by rw [ByteArray.size_append]; omega, by show _ = _; rw [L_append, L_append, unhide Hu, unhide Ht3, unhide Ht4, unhide Hst]; simp, unhide Hb4⟩
    · obtain rfl : j = ls.length := by omega
      have Hp : Hid (L u = secP k n d ls) := by have := unhide Hu; rw [List.take_length] at this; exact this
      go_wp2_with fail
      go_loopg [3] (64 - u.size) (fun m vt wr => ∃ j : Nat, ∃ u : ByteArray, u.size ≤ 64 ∧ m = 64 - u.size ∧ vt = .string u ∧ Hid (L u = secP k n d ls ++ List.replicate j 0) ∧ Hid (Below w.heap.size w wr))
      case atStart => exact ⟨0, u, by omega, rfl, rfl, by show _ = _; rw [unhide Hp]; simp, unhide Hb⟩
      case round =>
        clear Hb Hu Hp hus
        obtain ⟨j, u, hus, rfl, rfl, Hu, Hb⟩ := hrel
        by_cases hlt : u.size < 64
        · have hdc : decide ((u.size : Int) < 64) = true := by simp; omega
          go_wp2_with fail
          go_roundg (64 - (u.size + 1))
          case measure => omega
          case rel => exact ⟨j + 1, u ++ ⟨#[0]⟩, by rw [ByteArray.size_append]; show u.size + 1 ≤ 64; omega, by rw [ByteArray.size_append]; rfl, rfl, by show _ = _; rw [L_append, unhide Hu, List.replicate_succ', ← List.append_assoc]; rfl, unhide Hb⟩
        · have hdc : decide ((u.size : Int) < 64) = false := by simp; omega
          have Hfin : Hid (u = secB k n d ls) := by
            have h1 : u.size = (secP k n d ls).length + j := by rw [size_L, unhide Hu]; simp
            have h2 : L u = secL k n d ls := by
              rw [unhide Hu]
              unfold secL
              rw [show 64 - (secP k n d ls).length = j by omega]
            have h3 : L (secB k n d ls) = secL k n d ls := by unfold secB; exact L_list _
            exact L_ext (by rw [h2, h3])
          go_wp2_with fail
          go_ret
          exact ⟨congrArg (fun u => Ending.returned (.string u)) (unhide Hfin), unhide Hb⟩

end Go.Proofs.YtdchbenfccofpaaGreatDoor
