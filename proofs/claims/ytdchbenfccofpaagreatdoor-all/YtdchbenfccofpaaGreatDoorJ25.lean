/- Own texts of the theorem in YtdchbenfccofpaaGreatDoorWAlY, part 25. -/
import Derived.Test.YtdchbenfccofpaaGreatDoorJ20
import Derived.Test.YtdchbenfccofpaaGreatDoorJ17
import Derived.Lib.ItoaLen
import Derived.Deep.RegionHeld3
import Derived.Deep.DeepCutAuto
import Derived.Test.YtdchbenfccofpaaGreatDoorJ14
import Derived.Test.YtdchbenfccofpaaGreatDoorJ18
import Derived.Test.YtdchbenfccofpaaGreatDoorJ24
import Derived.Test.YtdchbenfccofpaaGreatDoorJ23
import Derived.Test.YtdchbenfccofpaaGreatDoorJ13
import Derived.Test.YtdchbenfccofpaaGreatDoorJ07
set_option maxRecDepth 100000
set_option maxHeartbeats 16000000
namespace Go.Proofs.YtdchbenfccofpaaGreatDoor
open Go.RowKit Db
theorem blk_second (w : World) (A B C : Array Value) (T : TypeId) : Blk (((w.alloc (.cells A T)).alloc (.cells B T)).alloc (.cells C T)) (w.heap.size + 1) B T := by
 have := (Blk.new (w.alloc (.cells A T)) B T).alloc (.cells C T)
 simpa using this
theorem blk_third (w : World) (A B C : Array Value) (T : TypeId) : Blk (((w.alloc (.cells A T)).alloc (.cells B T)).alloc (.cells C T)) (w.heap.size + 2) C T := by
 have := Blk.new ((w.alloc (.cells A T)).alloc (.cells B T)) C T
 simpa using this
theorem brk_size (x : Pc) (k : Nat) : (brk x k).length ≤ x.1.length + 2 := by
 unfold brk; split <;> simp
theorem showOpposite_any (x : ByteArray) (r : Nat) (w : World) (hx : x.size ≤ 900000) :
  Calls Tryz.prog 147 #[.agg #[.string x, .int .i64 (r : Int)]] w fun e w' => ∃ u : ByteArray, e = .returned (.agg #[.string u, .int .i64 3]) ∧ L u = 45 :: brk (L x, r) 3 ∧ Below w.heap.size w w' := by
 go_enter Tryz.func147, Tryz.ntmps147
 go_wp2_with fail
 refine (bracketed_any x r 3 _ (by omega)).mono ?_
 rintro e w1 ⟨u, rfl, hu, hb⟩
 have hus : u.size ≤ 1000000 := by
  rw [size_L, hu]
  have := brk_size (L x, r) (3 : Int).toNat
  simp only [L_length] at this
  omega
 have HB : Hid (Blk w1 (w.heap.size + 1) #[.string ⟨#[]⟩, .int .i64 0] 221) := by
  refine Blk.kept ?_ hb
  have := Blk.new (w.alloc (.cells #[.string x, .int .i64 (r : Int)] 221)) #[.string ⟨#[]⟩, .int .i64 0] 221
  simpa using this
 have Hb : Hid (Below w.heap.size w w1) := (((Below.refl _ _).alloc (Nat.le_refl _) _).alloc (by simp) _).then' (by simp; omega) hb
 have Hu := hI hu
 have c0 := HB.u.cell 0
 have c1 := HB.u.cell 1
 have z0 := HB.u.frozen 0
 have z1 := HB.u.frozen 1
 simp only [List.getElem?_toArray, List.getElem?_cons_zero, List.getElem?_cons_succ] at c0 c1
 clear hu hb
 go_wp2_with fail
 refine bodyPost_ret (v := .agg #[.string (⟨#[45]⟩ ++ u), .int .i64 3]) (by simp [results, Tryz.results147, go_sem, c0, c1]) rfl ⟨_, rfl, ?_, ?_⟩
 ·rw [L_append, Hu.u]; rfl
 ·exact (Hb.u.setCell (by simp) _).setCell (by simp) _
theorem showOperation_any (o : UInt8) (x y : ByteArray) (r q : Nat) (w : World) (hx : x.size ≤ 400000) (hy : y.size ≤ 400000) :
  Calls Tryz.prog 148 #[.int .u8 (o.toNat : Int), .agg #[.string x, .int .i64 (r : Int)], .agg #[.string y, .int .i64 (q : Int)]] w fun e w' =>
   ∃ u : ByteArray, e = .returned (.agg #[.string u, .int .i64 (rkS o.toNat : Int)]) ∧ L u = brk (L x, r) (rkS o.toNat) ++ o :: brk (L y, q) (rkS o.toNat + 1) ∧ Below w.heap.size w w' := by
 obtain ⟨k, hk, hk2⟩ : ∃ k : Nat, rkS (o.toNat : Int) = k ∧ (k = 1 ∨ k = 2) := ⟨_, rfl, by unfold rkS; split <;> simp⟩
 have Hk := hI hk
 have hor : ((o.toNat : Int) == 42) = true ∧ k = 2 ∨ ((o.toNat : Int) == 42) = false ∧ ((o.toNat : Int) == 47) = true ∧ k = 2 ∨ ((o.toNat : Int) == 42) = false ∧ ((o.toNat : Int) == 47) = false ∧ k = 1 := by
  unfold rkS at hk
  cases h1 : ((o.toNat : Int) == 42) <;> cases h2 : ((o.toNat : Int) == 47) <;> simp [h1, h2] at hk ⊢ <;> omega
 rw [hk]
 clear hk hk2
 rcases hor with ⟨h1, rfl⟩ | ⟨h1, h2, rfl⟩ | ⟨h1, h2, rfl⟩
 all_goals
  go_enter Tryz.func148, Tryz.ntmps148
  go_wp2_with fail
  refine (bracketed_any x r _ _ (by omega)).mono ?_
  rintro e w1 ⟨u1, rfl, hu1, hb1⟩
  have hs1 : u1.size ≤ 400002 := by
   rw [size_L, hu1]
   refine Nat.le_trans (brk_size _ _) ?_
   simp only [L_length]
   omega
  have HB1 : Hid (Blk w1 (w.heap.size + 1) #[.string y, .int .i64 (q : Int)] 221) := (blk_second w _ _ _ _).kept hb1
  have HB2 : Hid (Blk w1 (w.heap.size + 2) #[.string ⟨#[]⟩, .int .i64 0] 221) := (blk_third w _ _ _ _).kept hb1
  have Hb1 : Hid (Below w.heap.size w w1) := ((((Below.refl _ _).alloc (Nat.le_refl _) _).alloc (by simp) _).alloc (by simp; omega) _).then' (by simp; omega) hb1
  have Hu1 := hI hu1
  have f0 := HB1.u.cell 0
  have f1 := HB1.u.cell 1
  have hw1 := hb1.size
  simp only [List.getElem?_toArray, List.getElem?_cons_zero, List.getElem?_cons_succ] at f0 f1
  simp at hw1
  clear hu1 hb1
  go_wp2_with fail
  refine (bracketed_any y q _ _ (by omega)).mono ?_
  rintro e w2 ⟨u2, rfl, hu2, hb2⟩
  have hs2 : u2.size ≤ 400002 := by
   rw [size_L, hu2]
   refine Nat.le_trans (brk_size _ _) ?_
   simp only [L_length]
   omega
  have HB3 := hI (HB2.u.kept hb2)
  have Hb2 := hI (Hb1.u.then hb2)
  have Hu2 := hI hu2
  clear hu2 hb2 f0 f1
  go_wp2_with fail
  refine (signText_any o _).mono ?_
  rintro e w3 ⟨u3, rfl, hu3, hb3⟩
  have hs3 : u3.size = 1 := by rw [size_L, hu3]; rfl
  have HB4 := hI (HB3.u.kept hb3)
  have Hb3 := hI (Hb2.u.then hb3)
  have Hu3 := hI hu3
  have g0 := HB4.u.cell 0
  have g1 := HB4.u.cell 1
  have y0 := HB4.u.frozen 0
  have y1 := HB4.u.frozen 1
  simp only [List.getElem?_toArray, List.getElem?_cons_zero, List.getElem?_cons_succ] at g0 g1
  have hs3' : u3.size ≤ 1 := by omega
  clear hu3 hb3 hs3
  go_wp2_with fail
  first
   | refine bodyPost_ret (v := .agg #[.string (u1 ++ u3 ++ u2), .int .i64 2]) (by simp [results, Tryz.results148, go_sem, g0, g1]) rfl ⟨_, rfl, ?_, ?_⟩
   | refine bodyPost_ret (v := .agg #[.string (u1 ++ u3 ++ u2), .int .i64 1]) (by simp [results, Tryz.results148, go_sem, g0, g1]) rfl ⟨_, rfl, ?_, ?_⟩
  ·rw [L_append, L_append, Hu1.u, Hu2.u, Hu3.u]
   show brk _ _ ++ [o] ++ brk _ _ = brk _ _ ++ o :: brk _ _
   rw [List.append_assoc]; rfl
  ·exact (Hb3.u.setCell (by show _ ≤ w.heap.size + 2; omega) _).setCell (by show _ ≤ w.heap.size + 2; omega) _
theorem itoa_short (n : Int) (h0 : -9223372036854775808 ≤ n) (h1 : n ≤ 9223372036854775807) {u : ByteArray} (hu : L u = Lib.itoa n) : u.size ≤ 21 := by
 rw [size_L, hu]; exact Lib.itoa_length_le n h0 h1
theorem opd_u8 {s : Int} (h : opdB s = true) : s = ((u8 s).toNat : Int) := by
 simp [opdB, selB, oldB] at h
 rcases h with (rfl | (rfl | rfl) | rfl) | rfl | rfl <;> rfl
theorem opB_u8 {s : Int} (h : opB s = true) : s = ((u8 s).toNat : Int) := by
 simp [opB] at h
 rcases h with ((rfl | rfl) | rfl) | rfl <;> rfl
theorem word_any (s n : Int) (w : World) (ho : opdB s = true) (h0 : -9223372036854775808 ≤ n) (h1 : n ≤ 9223372036854775807) (ht : Tab w) :
  Calls Tryz.prog 146 #[.agg #[.int .u8 s, .int .i64 n]] w fun e w' => ∃ u : ByteArray, e = .returned (.string u) ∧ L u = wordP (s, n) ∧ Below w.heap.size w w' := by
 have Ht := hI ht
 have Ho := hI ho
 by_cases h48 : s = 48
 ·subst h48
  clear ho ht
  go_enter Tryz.func146, Tryz.ntmps146
  go_wp2_with fail
  refine (itoa_any n _ h0 h1 (Ht.u.below (by exact (Below.refl _ _).alloc (Nat.le_refl _) _))).mono ?_
  rintro e w1 ⟨u, rfl, hu, hb⟩
  have Hu := hI hu
  have Hb : Hid (Below w.heap.size w w1) := ((Below.refl _ _).alloc (Nat.le_refl _) _).then' (by simp) hb
  clear hu hb
  go_wp2_with fail
  go_ret
  exact ⟨u, rfl, Hu.u, Hb.u⟩
 ·have n48 : (s == 48) = false := by simpa using h48
  have N48 := hI n48
  obtain ⟨c, hc⟩ : ∃ c : UInt8, u8 s = c := ⟨_, rfl⟩
  have hs := opd_u8 ho
  rw [hc] at hs
  subst hs
  clear h48 ho ht
  go_enter Tryz.func146, Tryz.ntmps146
  go_wp2_with fail
  refine (signText_any c _).mono ?_
  rintro e w1 ⟨u1, rfl, hu1, hb1⟩
  have f0 := hb1.cell (p := ⟨w.heap.size, 0, none⟩) (by simp)
  have f1 := hb1.cell (p := ⟨w.heap.size, 1, none⟩) (by simp)
  have hb1s := hb1.size
  simp at f0 f1 hb1s
  have hs1 : u1.size ≤ 1 := by rw [size_L, hu1]; exact Nat.le_refl _
  have Hu1 := hI hu1
  have Hb1 : Hid (Below w.heap.size w w1) := ((Below.refl _ _).alloc (Nat.le_refl _) _).then' (by simp) hb1
  clear hu1 hb1
  go_wp2_with fail
  refine (isOperand_any (c.toNat : Int) n _).mono ?_
  rintro e w2 ⟨rfl, hb2⟩
  have g1 := hb2.cell (p := ⟨w.heap.size, 1, none⟩) (by show w.heap.size < _; omega)
  rw [f1] at g1
  have hb2s := hb2.size
  have Hb2 := hI (Hb1.u.then hb2)
  rw [Ho.u]
  clear hb2 f0 f1
  go_wp2_with fail
  refine (itoa_any n _ h0 h1 (Ht.u.below Hb2.u)).mono ?_
  rintro e w3 ⟨u3, rfl, hu3, hb3⟩
  have hs3 := itoa_short n h0 h1 hu3
  have Hu3 := hI hu3
  have Hb3 := hI (Hb2.u.then hb3)
  clear hu3 hb3
  go_wp2_with fail
  go_ret
  refine ⟨_, rfl, ?_, Hb3.u⟩
  rw [L_append, Hu1.u, Hu3.u]
  unfold wordP
  simp only [N48.u, hc]
  rfl
theorem showPeriod_any (a b : Int) (w : World) (a0 : 0 ≤ a) (a1 : a ≤ 999999) (b0 : 0 ≤ b) (b1 : b ≤ 999999) (ht : Tab w) :
  Calls Tryz.prog 106 #[.agg #[.int .i64 a, .int .i64 b]] w fun e w' => ∃ u : ByteArray, e = .returned (.string u) ∧ L u = Lib.itoa a ++ 45 :: Lib.itoa b ∧ Below w.heap.size w w' := by
 have Ht := hI ht
 clear ht
 go_enter Tryz.func106, Tryz.ntmps106
 go_wp2_with fail
 refine (itoa_any a _ (by omega) (by omega) (Ht.u.below (by exact (Below.refl _ _).alloc (Nat.le_refl _) _))).mono ?_
 rintro e w1 ⟨u1, rfl, hu1, hb1⟩
 have f1 := hb1.cell (p := ⟨w.heap.size, 1, none⟩) (by simp)
 simp at f1
 have hs1 := itoa_short a (by omega) (by omega) hu1
 have Hu1 := hI hu1
 have Hb1 : Hid (Below w.heap.size w w1) := ((Below.refl _ _).alloc (Nat.le_refl _) _).then' (by simp) hb1
 clear hu1 hb1
 go_wp2_with fail
 refine (itoa_any b _ (by omega) (by omega) (Ht.u.below Hb1.u)).mono ?_
 rintro e w2 ⟨u2, rfl, hu2, hb2⟩
 have hs2 := itoa_short b (by omega) (by omega) hu2
 have Hu2 := hI hu2
 have Hb2 := hI (Hb1.u.then hb2)
 clear hu2 hb2
 go_wp2_with fail
 go_ret
 refine ⟨_, rfl, ?_, Hb2.u⟩
 rw [L_append, L_append, Hu1.u, Hu2.u]
 show Lib.itoa a ++ [45] ++ Lib.itoa b = _
 rw [List.append_assoc]; rfl
abbrev Sw := ByteArray × Nat
def cellsS (q : List Sw) : List Value := q.flatMap fun p => [.string p.1, .int .i64 (p.2 : Int)]
theorem cellsS_append (p q : List Sw) : cellsS (p ++ q) = cellsS p ++ cellsS q := by simp [cellsS]
theorem cellsS_length (p : List Sw) : (cellsS p).length = p.length * 2 := by
 induction p with
 | nil => rfl
 | cons x t ih => show (_ :: _ :: cellsS t).length = _; simp [ih]; omega
def pcs (q : List Sw) : List Pc := (q.map fun p => (L p.1, p.2)).reverse
theorem pcs_snoc (q : List Sw) (x : Sw) : pcs (q ++ [x]) = (L x.1, x.2) :: pcs q := by simp [pcs]
theorem pcs_snoc2 (q : List Sw) (x y : Sw) : pcs (q ++ [x, y]) = (L y.1, y.2) :: (L x.1, x.2) :: pcs q := by simp [pcs]
def szs (q : List Sw) : Nat := (q.map fun p => p.1.size).sum
theorem szs_snoc (q : List Sw) (x : Sw) : szs (q ++ [x]) = szs q + x.1.size := by simp [szs]
theorem szs_snoc2 (q : List Sw) (x y : Sw) : szs (q ++ [x, y]) = szs q + x.1.size + y.1.size := by simp [szs]; omega
theorem info_shown : (Tryz.prog.info? 221).map (fun i => (i.zero, i.size, i.bytes)) = some (some (.agg #[.string ⟨#[]⟩, .int .i64 0]), 2, 24) := by kernel_rfl
theorem own_last {w : World} {B g cap : Nat} {e : TypeId} {q : List Sw} {x : Sw} (h : w.ownsRow B e 2 (.slice (some ⟨g, 0, none⟩) (q.length + 1) cap) (q.length + 1) (cellsS (q ++ [x]))) (u : ByteArray) (r : Nat) :
  ((w.setCell ⟨g, q.length * 2, none⟩ (.string u)).setCell ⟨g, q.length * 2 + 1, none⟩ (.int .i64 (r : Int))).ownsRow B e 2 (.slice (some ⟨g, 0, none⟩) (q.length + 1) cap) (q.length + 1) (cellsS (q ++ [(u, r)])) := by
 obtain ⟨_, h2⟩ := h
 rcases h2 with ⟨h0, _⟩ | ⟨g', cap', cur, hv, hg, hh, hn, hcap, hsz, htake⟩
 ·cases h0
 ·cases hv
  refine ⟨by rw [cellsS_length]; simp, .inr ⟨g, cap, (cur.setIfInBounds (q.length * 2) (.string u)).setIfInBounds (q.length * 2 + 1) (.int .i64 (r : Int)), rfl, hg, ?_, hn, hcap, by simpa using hsz, ?_⟩⟩
  ·exact Blk.set (Blk.set hh (q.length * 2) (.string u)) (q.length * 2 + 1) (.int .i64 (r : Int))
  ·rw [Array.toList_setIfInBounds, Array.toList_setIfInBounds]
   have h1 : (cur.toList.take ((q.length + 1) * 2)).take (q.length * 2) = cellsS q := by
    rw [htake, cellsS_append, List.take_append_of_le_length (by rw [cellsS_length]; omega), List.take_of_length_le (by rw [cellsS_length]; omega)]
   rw [List.take_take, show min (q.length * 2) ((q.length + 1) * 2) = q.length * 2 by omega] at h1
   have hl : q.length * 2 + 2 ≤ cur.toList.length := by
    have := congrArg List.length htake
    rw [cellsS_length] at this
    simp at this
    simp
    omega
   rw [show (q.length + 1) * 2 = q.length * 2 + 1 + 1 by omega, List.take_succ_eq_append_getElem (by simp at hl ⊢; omega), List.take_succ_eq_append_getElem (by simp at hl ⊢; omega)]
   rw [List.take_set_of_le (by omega), List.take_set_of_le (by omega), h1, cellsS_append]
   simp [cellsS]
theorem own_less {w : World} {B g cap : Nat} {e : TypeId} {q : List Sw} {x y : Sw} (h : w.ownsRow B e 2 (.slice (some ⟨g, 0, none⟩) (q.length + 2) cap) (q.length + 2) (cellsS (q ++ [x, y]))) :
  w.ownsRow B e 2 (.slice (some ⟨g, 0, none⟩) (q.length + 1) cap) (q.length + 1) (cellsS (q ++ [x])) := by
 obtain ⟨_, h2⟩ := h
 rcases h2 with ⟨h0, _⟩ | ⟨g', cap', cur, hv, hg, hh, hn, hcap, hsz, htake⟩
 ·cases h0
 ·cases hv
  refine ⟨by rw [cellsS_length]; simp, .inr ⟨g, cap, cur, rfl, hg, hh, by omega, hcap, hsz, ?_⟩⟩
  have h1 : (cur.toList.take ((q.length + 2) * 2)).take ((q.length + 1) * 2) = cellsS (q ++ [x]) := by
   rw [htake, show q ++ [x, y] = (q ++ [x]) ++ [y] by simp, cellsS_append (q ++ [x]), List.take_append_of_le_length (by rw [cellsS_length]; simp), List.take_of_length_le (by rw [cellsS_length]; simp)]
  rwa [List.take_take, show min ((q.length + 1) * 2) ((q.length + 2) * 2) = (q.length + 1) * 2 by omega] at h1
structure SLoop (w wr : World) (ps : List Pt) (j : Nat) (q : List Sw) (vq : Value) : Prop where
 dp : dpt (ps.drop j) q.length = some 1
 ev : sEval (ps.drop j) (pcs q) = sEval ps []
 own : wr.ownsRow w.heap.size 221 2 vq q.length (cellsS q)
 bel : Below w.heap.size w wr
 sz : szs q ≤ 25 * j
theorem snoc1s (q : List Sw) (h : 1 ≤ q.length) : ∃ r x, q = r ++ [x] := by
 cases hq : q.reverse with
 | nil => simp at hq; subst hq; simp at h
 | cons y t => exact ⟨t.reverse, y, by have := congrArg List.reverse hq; simpa using this⟩
theorem snoc2s (q : List Sw) (h : 2 ≤ q.length) : ∃ r x y, q = r ++ [x, y] := by
 obtain ⟨r, y, rfl⟩ := snoc1s q (by omega)
 simp at h
 obtain ⟨r, x, rfl⟩ := snoc1s r (by omega)
 exact ⟨r, x, y, by simp⟩
theorem SLoop.opnd {w wr w' : World} {ps : List Pt} {j : Nat} {q : List Sw} {vq vq' : Value} {p : Pt} (h : SLoop w wr ps j q vq) (hp : ps[j]? = some p) (ho : opdB p.1 = true) {u : ByteArray} (hu : L u = wordP p) (hs : u.size ≤ 22)
  (hown : w'.ownsRow w.heap.size 221 2 vq' (q.length + 1) (cellsS q ++ [.string u, .int .i64 3])) (hb : Below w.heap.size w w') : SLoop w w' ps (j + 1) (q ++ [(u, 3)]) vq' := by
 have hd := drop_cons hp
 refine ⟨?_, ?_, by rw [cellsS_append]; simpa [cellsS] using hown, hb, ?_⟩
 ·have := h.dp
  rw [hd] at this
  simp only [dpt, ho, if_true] at this
  simpa using this
 ·have := h.ev
  rw [hd] at this
  simp only [sEval, ho, if_true] at this
  rw [← this, pcs_snoc, hu]
 ·rw [szs_snoc]
  have := h.sz
  show _ + u.size ≤ _
  omega
theorem SLoop.one {w wr : World} {ps : List Pt} {j : Nat} {q : List Sw} {vq : Value} {p : Pt} (h : SLoop w wr ps j q vq) (hp : ps[j]? = some p) (ho : opdB p.1 = false) (h126 : p.1 = 126) : 1 ≤ q.length := by
 have hd := drop_cons hp
 have e1 : (p.1 == 126) = true := by simp [h126]
 have := h.dp
 rw [hd] at this
 simp only [dpt, ho, e1, if_true, Bool.false_eq_true, if_false] at this
 split at this
 ·rename_i hh; simpa using hh
 ·cases this
theorem SLoop.neg {w wr w' : World} {ps : List Pt} {j : Nat} {q : List Sw} {x : Sw} {vq : Value} {p : Pt} (h : SLoop w wr ps j (q ++ [x]) vq) (hp : ps[j]? = some p) (ho : opdB p.1 = false) (h126 : p.1 = 126) {u : ByteArray} (hu : L u = 45 :: brk (L x.1, x.2) 3)
  (hown : w'.ownsRow w.heap.size 221 2 vq (q.length + 1) (cellsS (q ++ [(u, 3)]))) (hb : Below w.heap.size w w') : SLoop w w' ps (j + 1) (q ++ [(u, 3)]) vq := by
 have hd := drop_cons hp
 have e1 : (p.1 == 126) = true := by simp [h126]
 refine ⟨?_, ?_, by simpa using hown, hb, ?_⟩
 ·have := h.dp
  rw [hd] at this
  simp only [dpt, ho, e1, if_true, Bool.false_eq_true, if_false] at this
  split at this
  ·simpa using this
  ·cases this
 ·have := h.ev
  rw [hd, pcs_snoc] at this
  simp only [sEval, ho, e1, if_true, Bool.false_eq_true, if_false] at this
  rw [← this, pcs_snoc, hu]
 ·have hs := h.sz
  rw [szs_snoc] at hs ⊢
  have := congrArg List.length hu
  rw [L_length] at this
  have h2 := brk_size (L x.1, x.2) 3
  simp only [L_length, List.length_cons] at this h2
  show _ + u.size ≤ _
  omega
theorem SLoop.two {w wr : World} {ps : List Pt} {j : Nat} {q : List Sw} {vq : Value} {p : Pt} (h : SLoop w wr ps j q vq) (hp : ps[j]? = some p) (ho : opdB p.1 = false) (h126 : ¬ p.1 = 126) : opB p.1 = true ∧ 2 ≤ q.length := by
 have hd := drop_cons hp
 have e1 : (p.1 == 126) = false := by simpa using h126
 have := h.dp
 rw [hd] at this
 simp only [dpt, ho, e1, Bool.false_eq_true, if_false] at this
 split at this
 ·rename_i hh; simpa using hh
 ·cases this
theorem SLoop.join {w wr w' : World} {ps : List Pt} {j : Nat} {q : List Sw} {x y : Sw} {vq vq' : Value} {p : Pt} (h : SLoop w wr ps j (q ++ [x, y]) vq) (hp : ps[j]? = some p) (ho : opB p.1 = true) {u : ByteArray} (hu : L u = brk (L x.1, x.2) (rkS p.1) ++ u8 p.1 :: brk (L y.1, y.2) (rkS p.1 + 1))
  (hown : w'.ownsRow w.heap.size 221 2 vq' (q.length + 1) (cellsS (q ++ [(u, rkS p.1)]))) (hb : Below w.heap.size w w') : SLoop w w' ps (j + 1) (q ++ [(u, rkS p.1)]) vq' := by
 have hd := drop_cons hp
 have ho2 := opd_op ho
 refine ⟨?_, ?_, by simpa using hown, hb, ?_⟩
 ·have := h.dp
  rw [hd] at this
  simp [dpt, ho2.1, ho2.2, ho] at this
  simpa using this
 ·have := h.ev
  rw [hd, pcs_snoc2] at this
  simp only [sEval, ho2.1, ho2.2, Bool.false_eq_true, if_false] at this
  rw [← this, pcs_snoc, hu]
 ·have hs := h.sz
  rw [szs_snoc2] at hs
  rw [szs_snoc]
  have := congrArg List.length hu
  rw [L_length] at this
  have h1 := brk_size (L x.1, x.2) (rkS p.1)
  have h2 := brk_size (L y.1, y.2) (rkS p.1 + 1)
  simp only [L_length, List.length_cons, List.length_append] at this h1 h2
  show _ + u.size ≤ _
  omega
theorem SLoop.done {w wr : World} {ps : List Pt} {j : Nat} {q : List Sw} {vq : Value} {z : Pc} (h : SLoop w wr ps j q vq) (hj : ps.length ≤ j) (hz : ShowR ps z) : ∃ x, q = [x] ∧ L x.1 = z.1 := by
 have hd := List.drop_eq_nil_of_le hj
 have h1 := h.dp
 rw [hd] at h1
 simp [dpt] at h1
 obtain ⟨x, rfl⟩ := List.length_eq_one_iff.1 h1
 refine ⟨x, rfl, ?_⟩
 have := h.ev
 rw [hd] at this
 have h2 := hz [] []
 rw [List.append_nil] at h2
 rw [h2] at this
 simp [sEval, pcs] at this
 rw [← this]
theorem word_short {s n : Int} (h0 : -9223372036854775808 ≤ n) (h1 : n ≤ 9223372036854775807) {u : ByteArray} (hu : L u = wordP (s, n)) : u.size ≤ 22 := by
 rw [size_L, hu]
 have := Lib.itoa_length_le n h0 h1
 unfold wordP
 split
 ·show (Lib.itoa n).length ≤ 22; omega
 ·show (u8 s :: Lib.itoa n).length ≤ 22; rw [List.length_cons]; omega
theorem kept_cell {W W' : World} (h : Below W.heap.size W W') {a : Addr} {v : Value} (hc : W.cell? a = some v) : W'.cell? a = some v := by
 rw [h.cell (World.block_lt_of_cell? W a hc)]; exact hc
theorem kept_alloc {W W' : World} {o : Obj} (h : Below W.heap.size W W') {a : Addr} {v : Value} (hc : W.cell? a = some v) : (W'.alloc o).cell? a = some v := by
 have h1 := kept_cell h hc
 rw [World.cell?_alloc_some _ _ _ (by rw [h1]; rfl)]; exact h1
structure CutR (w3 wx : World) (g : Nat) (u : ByteArray) (k : Nat) : Prop where
 ge : w3.heap.size ≤ g
 blk : Blk wx g #[.string u, .int .i64 (k : Int)] 221
 bel : Below w3.heap.size w3 wx
theorem cutA {w3 w4 : World} {u : ByteArray} {k : Nat} (h : Below (w3.drew.alloc (.cells #[.string ⟨#[]⟩, .int .i64 0] 221)).heap.size (w3.drew.alloc (.cells #[.string ⟨#[]⟩, .int .i64 0] 221)) w4) :
  CutR w3 ((w4.setCell ⟨w3.heap.size, 0, none⟩ (.string u)).setCell ⟨w3.heap.size, 1, none⟩ (.int .i64 (k : Int))) w3.heap.size u k := by
 have B0 : Blk w4 w3.heap.size #[.string ⟨#[]⟩, .int .i64 0] 221 := (Blk.new w3.drew _ _).kept h
 have B1 := (B0.set 0 (.string u)).set 1 (.int .i64 (k : Int))
 have h0 : Below w3.heap.size w3.drew w4 := ((Below.refl _ w3.drew).alloc (Nat.le_refl _) _).then' (by simp) h
 exact ⟨Nat.le_refl _, by simpa using B1, (h0.undrew.setCell (by simp) _).setCell (by simp) _⟩
theorem cutB {w3 w4 : World} {u : ByteArray} {k : Nat} (h : Below w3.drew.heap.size w3.drew w4) :
  CutR w3 (w4.alloc (.cells #[.string u, .int .i64 (k : Int)] 221)) w4.heap.size u k := by
 have h0 : Below w3.heap.size w3 w4 := Below.undrew h
 exact ⟨h0.size, Blk.new _ _ _, h0.alloc h0.size _⟩
theorem showRow_any (vp : Value) (ps : List Pt) (B : Nat) (w : World) (hp : w.ownsRow B 197 2 vp ps.length (cellsP ps)) (hn : ∀ p ∈ ps, -9223372036854775808 ≤ p.2 ∧ p.2 ≤ 9223372036854775807)
  (hdp : dpt ps 0 = some 1) (z : Pc) (hz : ShowR ps z) (hpl : ps.length ≤ 200) (ht : Tab w) :
  Calls Tryz.prog 107 #[.agg #[vp]] w fun e w' => ∃ u : ByteArray, e = .returned (.string u) ∧ L u = z.1 ∧ u.size ≤ 5000 ∧ Below w.heap.size w w' := by
 obtain ⟨ii, hi, hz0, hz1, hz2⟩ := info_parts info_shown
 obtain ⟨aop, capp, rfl⟩ := oForm hp
 have Hp := hI hp
 have Hn := hI hn
 have Hz := hI hz
 have Ht := hI ht
 have Hst : Hid (SLoop w (w.alloc (.cells #[.slice aop ps.length capp] 165)) ps 0 [] (.slice none 0 0)) := ⟨hdp, rfl, World.ownsRow_nil _ _ _ _, (Below.refl _ _).alloc (Nat.le_refl _) _, Nat.le_refl _⟩
 clear hp hn hz ht hdp
 go_enter Tryz.func107, Tryz.ntmps107
 go_wp2_with fail
 go_loopg [3, 11] ps.length (fun m vq i wr => ∃ j : Nat, ∃ q : List Sw, j ≤ ps.length ∧ m = ps.length - j ∧ i = .int .i64 j ∧ q.length ≤ j ∧ w.heap.size < wr.heap.size ∧ Hid (SLoop w wr ps j q vq))
 case atStart => exact ⟨0, [], by omega, rfl, rfl, by simp, by simp, Hst.u⟩
 case round =>
  obtain ⟨j, q, hj, rfl, rfl, hq, hsz, Hl⟩ := hrel
  obtain ⟨aoq, capq, hvq⟩ := oForm Hl.u.own
  subst hvq
  by_cases hlt : j < ps.length
  ·obtain ⟨pj, hpj⟩ : ∃ pj, ps[j]? = some pj := ⟨ps[j], List.getElem?_eq_getElem hlt⟩
   obtain ⟨g2, _, e1, hg2, hg2'⟩ := oSome Hp.u (by omega)
   simp only [Value.slice.injEq, true_and] at e1
   obtain ⟨rfl, rfl⟩ := e1
   have hc := pair_get (fun p : Pt => Value.int .u8 p.1) (fun p => Value.int .i64 p.2) ps j pj hpj
   have hro := oBelow Hp.u Hl.u.bel
   have d1 := oCell hro (j := j * 2) hc.1
   have d2 := oCell hro (j := j * 2 + 1) hc.2
   have Hnj := hI (Hn.u pj (List.mem_of_getElem? hpj))
   have Hpj := hI hpj
   clear hro hc hpj
   obtain ⟨s, n⟩ := pj
   simp only at d1 d2 Hnj
   go_wp2_with fail
   refine (isOperand_any s n _).mono ?_
   rintro e w3 ⟨rfl, hb3⟩
   have f0 := hb3.cell (p := ⟨wr.heap.size, 0, none⟩) (by simp)
   have f1 := hb3.cell (p := ⟨wr.heap.size, 1, none⟩) (by simp)
   have hb3s := hb3.size
   simp at f0 f1 hb3s
   have Hb3 : Hid (Below w.heap.size w w3) := (Hl.u.bel.alloc (by omega) _).then' (by simp; omega) hb3
   have Hq3 := hI (oBelow (Hl.u.own.alloc _) hb3)
   clear hb3
   cases ho : opdB s with
   | true =>
    have Hoo := hI ho
    go_wp2_with fail
    refine (word_any s n _ Hoo.u Hnj.u.1 Hnj.u.2 (Ht.u.below Hb3.u)).mono ?_
    rintro e w4 ⟨u, rfl, hu, hb4⟩
    have Hus := hI (word_short Hnj.u.1 Hnj.u.2 hu)
    have Hb4 := hI (Hb3.u.then' (by omega) hb4)
    have Hq4 := hI (oBelow Hq3.u hb4)
    have hb4s := hb4.size
    have Hu := hI hu
    clear hb4 hu
    go_wp2_with (first
     | (at_builtin; refine wpList_append_own _ rfl (.tmp 19) (.tmp 23) 219 rfl w.heap.size 221 ii (.agg #[.string ⟨#[]⟩, .int .i64 0]) 2 24 Tryz.underlying219 hi hz0 hz1 hz2 rfl (by decide) (.slice aoq q.length capq) q.length _ rfl (Hq4.u.alloc _) ⟨w4.heap.size, 0, none⟩ 1 1 [.string u, .int .i64 3] rfl rfl (cell_two_new' _ _ (by simp) _ _ _) (fun x hx => by simp at hx; rcases hx with rfl | rfl <;> rfl) (by unfold maxLen; omega) (by omega) (by simp; omega) ?_; intro vq' w5 hown5 hgr5 _; obtain ⟨gf, cf, rfl, hgf, hgf'⟩ := oSome hown5 (Nat.succ_pos _)))
    have hb5 : Below w.heap.size w w5 := (Hb4.u.alloc (by omega) _).grown hgr5 (by simp; omega) (fun g hg => (Hq4.u.lt g hg).1)
    have Hl5 := hI (Hl.u.opnd Hpj.u Hoo.u Hu.u Hus.u hown5 hb5)
    have hsz5 := hgr5.size
    simp at hsz5
    clear hown5 hgr5 hb5
    go_wp2_with fail
    go_roundg (ps.length - (j + 1))
    case measure => omega
    case rel => exact ⟨j + 1, q ++ [(u, 3)], by omega, rfl, by go_num, by simp; omega, by omega, Hl5.u⟩
   | false =>
    have Hoo := hI ho
    by_cases h126 : s = 126
    ·subst h126
     have h1 := Hl.u.one Hpj.u Hoo.u rfl
     obtain ⟨qq, x, rfl⟩ := snoc1s q h1
     obtain ⟨ux, rx⟩ := x
     have hlen : (qq ++ [(ux, rx)]).length = qq.length + 1 := by simp
     simp only [hlen] at Hq3 hq Hl ⊢
     obtain ⟨gp, _, e1, hgp, hgp'⟩ := oSome Hq3.u (by omega)
     simp only [Value.slice.injEq, true_and] at e1
     obtain ⟨rfl, rfl⟩ := e1
     have p1 := oCell Hq3.u (j := qq.length * 2) (u := .string ux) (by rw [cellsS_append, List.getElem?_append_right (by rw [cellsS_length]; omega), cellsS_length]; simp [cellsS])
     have p2 := oCell Hq3.u (j := qq.length * 2 + 1) (u := .int .i64 rx) (by rw [cellsS_append, List.getElem?_append_right (by rw [cellsS_length]; omega), cellsS_length]; simp [cellsS])
     have hux := Hl.u.sz
     rw [szs_snoc] at hux
     simp only at hux
     clear hlen h1
     go_wp2_with fail
     refine (showOpposite_any ux rx _ (by omega)).mono ?_
     rintro e w4 ⟨u, rfl, hu, hb4⟩
     have Hq4 := hI (oBelow Hq3.u hb4)
     have Hb4 := hI (Hb3.u.then' (by omega) hb4)
     have hb4s := hb4.size
     have z0 := oFrozen Hq4.u (qq.length * 2)
     have z1 := oFrozen Hq4.u (qq.length * 2 + 1)
     have hown5 := own_last Hq4.u u 3
     have Hl5 := hI (Hl.u.neg Hpj.u Hoo.u rfl hu hown5 ((Hb4.u.setCell (by show w.heap.size ≤ gp; exact hgp) _).setCell (by show w.heap.size ≤ gp; exact hgp) _))
     have r1 := oCell Hq4.u (j := qq.length * 2) (u := .string ux) (by rw [cellsS_append, List.getElem?_append_right (by rw [cellsS_length]; omega), cellsS_length]; simp [cellsS])
     have r2 := oCell Hq4.u (j := qq.length * 2 + 1) (u := .int .i64 rx) (by rw [cellsS_append, List.getElem?_append_right (by rw [cellsS_length]; omega), cellsS_length]; simp [cellsS])
     clear hb4 hu p1 p2 hown5
     go_wp2_with fail
     go_roundg (ps.length - (j + 1))
     case measure => omega
     case rel => exact ⟨j + 1, qq ++ [(u, 3)], by omega, rfl, by go_num, by simp; omega, by simp [World.setCell]; omega, Hl5.u⟩
    ·have n126 : (s == 126) = false := by simpa using h126
     have h2 := Hl.u.two Hpj.u Hoo.u h126
     obtain ⟨qq, x, y, rfl⟩ := snoc2s q h2.2
     obtain ⟨ux, rx⟩ := x
     obtain ⟨uy, ry⟩ := y
     have Hop := hI h2.1
     obtain ⟨c, hcu⟩ : ∃ c : UInt8, u8 s = c := ⟨_, rfl⟩
     have hs8 := opB_u8 h2.1
     rw [hcu] at hs8
     subst hs8
     have Hcu := hI hcu
     clear h126 h2 hcu
     have hlen : (qq ++ [(ux, rx), (uy, ry)]).length = qq.length + 2 := by simp
     simp only [hlen] at Hq3 hq Hl ⊢
     obtain ⟨gp, _, e1, hgp, hgp'⟩ := oSome Hq3.u (by omega)
     simp only [Value.slice.injEq, true_and] at e1
     obtain ⟨rfl, rfl⟩ := e1
     have hux := Hl.u.sz
     rw [szs_snoc2] at hux
     simp only at hux
     have hcc : ∀ (k : Nat) (v : Value), [Value.string ux, .int .i64 rx, .string uy, .int .i64 ry][k]? = some v → (cellsS (qq ++ [(ux, rx), (uy, ry)]))[qq.length * 2 + k]? = some v := by
      intro k v hk
      rw [cellsS_append, List.getElem?_append_right (by rw [cellsS_length]; omega), cellsS_length, show qq.length * 2 + k - qq.length * 2 = k by omega]
      exact hk
     have p1 := oCell Hq3.u (j := qq.length * 2) (u := .string ux) (hcc 0 _ rfl)
     have p2 := oCell Hq3.u (j := qq.length * 2 + 1) (u := .int .i64 rx) (hcc 1 _ rfl)
     have p3 := oCell Hq3.u (j := (qq.length + 1) * 2) (u := .string uy) (by rw [show (qq.length + 1) * 2 = qq.length * 2 + 2 by omega]; exact hcc 2 _ rfl)
     have p4 := oCell Hq3.u (j := (qq.length + 1) * 2 + 1) (u := .int .i64 ry) (by rw [show (qq.length + 1) * 2 + 1 = qq.length * 2 + 3 by omega]; exact hcc 3 _ rfl)
     have e2 : (qq.length : Int) + 2 - 1 = (qq.length : Int) + 1 := by omega
     have wq0 : IntKind.i64.wrap (qq.length : Int) = qq.length := by rw [IntKind.wrap_i64]; omega
     have wq1 : IntKind.i64.wrap ((qq.length : Int) + 1) = (qq.length : Int) + 1 := by rw [IntKind.wrap_i64]; omega
     have tq1 : ((qq.length : Int) + 1).toNat = qq.length + 1 := by omega
     have lq1 : (0 : Int) ≤ (qq.length : Int) + 1 := by omega
     have lq0 : (0 : Int) ≤ (qq.length : Int) := by omega
     have lq3 : (qq.length : Int) < (qq.length : Int) + 2 := by omega
     have e3 : (qq.length : Int) + 2 - 2 = (qq.length : Int) := by omega
     have tq0 : (qq.length : Int).toNat = qq.length := by omega
     have lq2 : (qq.length : Int) + 1 < (qq.length : Int) + 2 := by omega
     have Hcc := hI hcc
     have hlt1 : wr.heap.size < w3.heap.size := by omega
     have hlt2 : gp < w3.heap.size := by omega
     have hne1 : w3.heap.size ≠ wr.heap.size := by omega
     have hne2 : w3.heap.size ≠ gp := by omega
     clear hlen hcc
     go_upto_region 11 with fail
     have HC := hI (fun (w4 : World) (u : ByteArray) => cutA (w3 := w3) (w4 := w4) (u := u) (k := rkS (c.toNat : Int)))
     have HD := hI (fun (w4 : World) (u : ByteArray) => cutB (w3 := w3) (w4 := w4) (u := u) (k := rkS (c.toNat : Int)))
     go_cut [7] (fun vj wx => ∃ u : ByteArray, ∃ g : Nat, vj = .pointer (some ⟨g, 0, none⟩) ∧ L u = brk (L ux, rx) (rkS (c.toNat : Int)) ++ c :: brk (L uy, ry) (rkS (c.toNat : Int) + 1) ∧ CutR w3 wx g u (rkS (c.toNat : Int)))
     case first =>
      have hcall := fun wx => showOperation_any c ux uy rx ry wx (by omega) (by omega)
      clear hux hq Hp Hn Hz Ht Hst Hl Hq3 Hb3 Hcc Hop Hcu Hoo Hpj Hnj d1 d2
      go_region_held3 (fun w' => w'.cell? ⟨wr.heap.size, 0, none⟩ = some (.int .u8 (c.toNat : Int)) ∧ w'.cell? ⟨gp, qq.length * 2, none⟩ = some (.string ux) ∧ w'.cell? ⟨gp, qq.length * 2 + 1, none⟩ = some (.int .i64 rx) ∧ w'.cell? ⟨gp, (qq.length + 1) * 2, none⟩ = some (.string uy) ∧ w'.cell? ⟨gp, (qq.length + 1) * 2 + 1, none⟩ = some (.int .i64 ry)) (first | go_keep | exact ⟨kept_cell hb4 (by simp [*]), kept_cell hb4 (by simp [*]), kept_cell hb4 (by simp [*]), kept_cell hb4 (by simp [*]), kept_cell hb4 (by simp [*])⟩ | exact ⟨kept_alloc hb4 (by simp [*]), kept_alloc hb4 (by simp [*]), kept_alloc hb4 (by simp [*]), kept_alloc hb4 (by simp [*]), kept_alloc hb4 (by simp [*])⟩) (first | (go_at_call 148; refine (hcall _).mono ?_; rintro e w4 ⟨u, rfl, hu, hb4⟩; have k0 := fun h => hb4.cell (p := ⟨w3.heap.size, 0, none⟩) h; have k1 := fun h => hb4.cell (p := ⟨w3.heap.size, 1, none⟩) h; have y0 := fun h => hb4.frozen (p := ⟨w3.heap.size, 0, none⟩) h; have y1 := fun h => hb4.frozen (p := ⟨w3.heap.size, 1, none⟩) h; simp at k0 k1 y0 y1))
      all_goals (try go_wp2_with fail)
      all_goals go_meet
      all_goals first
       | exact ⟨u, w3.heap.size, rfl, hu, HC.u w4 u hb4⟩
       | exact ⟨u, w4.heap.size, rfl, hu, HD.u w4 u hb4⟩
     case rest =>
      obtain ⟨u, g, rfl, hu, hr⟩ := hcut
      have Hb5 := hI (Hb3.u.then' (by omega) hr.bel)
      have Hq5 := hI (oBelow Hq3.u hr.bel)
      have c0 := hr.blk.cell 0
      have c1 := hr.blk.cell 1
      simp only [List.getElem?_toArray, List.getElem?_cons_zero, List.getElem?_cons_succ] at c0 c1
      have hszc := hr.bel.size
      have hown5 := own_last (own_less Hq5.u) u (rkS (c.toNat : Int))
      have Hl5 := hI (Hl.u.join Hpj.u Hop.u (by rw [Hcu.u]; exact hu) hown5 ((Hb5.u.setCell (by show w.heap.size ≤ gp; exact hgp) _).setCell (by show w.heap.size ≤ gp; exact hgp) _))
      have z0 := oFrozen Hq5.u (qq.length * 2)
      have z1 := oFrozen Hq5.u (qq.length * 2 + 1)
      have r1 := oCell Hq5.u (j := qq.length * 2) (u := .string ux) (Hcc.u 0 _ rfl)
      have r2 := oCell Hq5.u (j := qq.length * 2 + 1) (u := .int .i64 rx) (Hcc.u 1 _ rfl)
      have hcap : qq.length + 1 ≤ capq := by
       rcases Hq3.u.2 with ⟨h0, _⟩ | ⟨g', cap', cur, hv, _, _, hn, _⟩
       ·cases h0
       ·cases hv; omega
      clear hu hr hown5 p1 p2 p3 p4 f0 f1
      go_wp2_with fail
      go_roundg (ps.length - (j + 1))
      case measure => omega
      case rel => exact ⟨j + 1, qq ++ [(u, rkS (c.toNat : Int))], by omega, rfl, by go_num, by simp; omega, by simp [World.setCell]; omega, Hl5.u⟩
  ·obtain ⟨x, rfl, hx⟩ := Hl.u.done (by omega) Hz.u
   obtain ⟨g, _, e1, hg, hg'⟩ := oSome Hl.u.own (by simp)
   simp only [Value.slice.injEq, true_and] at e1
   obtain ⟨rfl, rfl⟩ := e1
   have c0 := oCell Hl.u.own (j := 0) rfl
   have hsx := Hl.u.sz
   have Hx := hI hx
   simp [szs] at hsx
   clear hx
   go_wp2_with fail
   go_ret
   exact ⟨x.1, rfl, Hx.u, by omega, Hl.u.bel⟩
def perT (p : List UInt8 × List UInt8) : List UInt8 := Lib.decDigits (val p.1).toNat ++ 45 :: Lib.decDigits (val p.2).toNat
def rowT (ps : List Pt) : List UInt8 := match sEval ps [] with | x :: _ => x.1 | [] => []
theorem rowT_of {ps : List Pt} {x : Pc} (h : ShowR ps x) : rowT ps = x.1 := by
 have := h [] []
 rw [List.append_nil] at this
 unfold rowT
 rw [this]
 simp [sEval]
def shT (pd : List (List UInt8 × List UInt8)) (pss : List (List Pt)) : List UInt8 := jn 44 (pd.map perT) ++ 124 :: jn 59 (pss.map rowT)
theorem outc_small {pd : List (Int × Int)} {pss : List (List Pt)} {er pl : Int} (h : outc pd pss = (er, pl)) (h0 : er = 0) : pd.length ≤ 4 ∧ pss.length ≤ 8 ∧ pl = 0 := by
 subst h0
 unfold outc at h
 split at h
 ·simp at h
 ·split at h
  ·simp at h
  ·split at h
   ·simp at h
   ·split at h
    ·simp at h
    ·simp at h; omega
theorem splitGo_ne (c : UInt8) (l : List UInt8) : ∀ acc cur, splitGo c acc cur l ≠ [] := by
 induction l with
 | nil => intro acc cur; simp [splitGo]
 | cons x r ih => intro acc cur; unfold splitGo; split <;> exact ih _ _
theorem split_ne (l : List UInt8) (c : UInt8) : split l c ≠ [] := splitGo_ne c l _ _
theorem day_range {d : List UInt8} (h : dayS d) : 0 ≤ val d ∧ val d ≤ 999 := by
 have h1 := val_pos d h.2.2
 have h2 := val_lt d h.2.2
 have h3 : (10 : Int) ^ d.length ≤ 10 ^ 3 := by
  have : d.length = 1 ∨ d.length = 2 ∨ d.length = 3 := by have := h.1; have := h.2.1; omega
  rcases this with h | h | h <;> rw [h] <;> decide
 have : (10 : Int) ^ 3 = 1000 := by decide
 omega
theorem decDigits_small (n : Nat) (h : n ≤ 999) : (Lib.decDigits n).length ≤ 3 := by
 unfold Lib.decDigits
 split
 ·simp
 ·rw [List.length_append]
  unfold Lib.decDigits
  split
  ·simp
  ·rw [List.length_append]
   unfold Lib.decDigits
   rw [dif_pos (by omega)]
   simp
theorem opnd_num {e : List UInt8} {ps : List Pt} (h : Opnd e ps) : ∀ p ∈ ps, -9223372036854775808 ≤ p.2 ∧ p.2 ≤ 9223372036854775807 := by
 have key : ∀ d : List UInt8, d.length ≤ 18 → (∀ c ∈ d, digB c.toNat = true) → -9223372036854775808 ≤ val d ∧ val d ≤ 9223372036854775807 := by
  intro d hd hc
  have h1 := val_pos d hc
  have h2 := val_lt d hc
  have h3 : (10 : Int) ^ d.length ≤ 10 ^ 18 := by
   have : (10 : Nat) ^ d.length ≤ 10 ^ 18 := Nat.pow_le_pow_right (by omega) hd
   exact_mod_cast this
  have : (10 : Int) ^ 18 = 1000000000000000000 := by decide
  omega
 rcases h with ⟨_, hl, hd, rfl⟩ | ⟨c, ds, rfl, _, hd, hk, rfl⟩
 ·intro p hp
  simp only [List.mem_singleton] at hp
  subst hp
  exact key e hl hd
 ·intro p hp
  simp only [List.mem_singleton] at hp
  subst hp
  exact key ds (by rcases hk with h | h <;> omega) hd
theorem wf_num {n : Nat} : ∀ {e : List UInt8} {ps : List Pt}, Wf n e ps → ∀ p ∈ ps, -9223372036854775808 ≤ p.2 ∧ p.2 ≤ 9223372036854775807 := by
 induction n with
 | zero => intro e ps h; exact absurd h (by simp [Wf])
 | succ n ih =>
  intro e ps h
  rcases h with ⟨_, h⟩ | ⟨_, h⟩ | ⟨_, p, h, rfl⟩ | ⟨_, p, q, h, k, rfl⟩
  ·exact opnd_num h
  ·exact ih h
  ·intro x hx
   rcases List.mem_append.1 hx with hx | hx
   ·exact ih h x hx
   ·simp only [List.mem_singleton] at hx
    subst hx
    exact ⟨by simp, by simp⟩
  ·intro x hx
   rcases List.mem_append.1 hx with hx | hx
   ·rcases List.mem_append.1 hx with hx | hx
    ·exact ih h x hx
    ·exact ih k x hx
   ·simp only [List.mem_singleton] at hx
    subst hx
    exact ⟨by simp, by simp⟩
theorem per_step {pd : List (List UInt8 × List UInt8)} {j : Nat} {p : List UInt8 × List UInt8} (hp : pd[j]? = some p) {u t : List UInt8} (h : u = jn 44 ((pd.map perT).take j)) (h0 : 0 ≤ val p.1) (h1 : 0 ≤ val p.2) (ht : t = Lib.itoa (val p.1) ++ 45 :: Lib.itoa (val p.2)) :
  (j = 0 → u ++ t = jn 44 ((pd.map perT).take (j + 1))) ∧ (0 < j → u ++ [44] ++ t = jn 44 ((pd.map perT).take (j + 1))) := by
 have hm : (pd.map perT)[j]? = some t := by
  rw [List.getElem?_map, hp, ht, itoa_pos h0, itoa_pos h1]; rfl
 constructor
 ·rintro rfl
  rw [jn_one hm, h]; rfl
 ·intro hj
  rw [jn_more hj hm, h]; simp
theorem row_step {pss : List (List Pt)} {j : Nat} {p : List Pt} (hp : pss[j]? = some p) {x : Pc} (hx : ShowR p x) {a u : List UInt8} (h : u = a ++ jn 59 ((pss.map rowT).take j)) :
  (j = 0 → u ++ x.1 = a ++ jn 59 ((pss.map rowT).take (j + 1))) ∧ (0 < j → u ++ [59] ++ x.1 = a ++ jn 59 ((pss.map rowT).take (j + 1))) := by
 have hm : (pss.map rowT)[j]? = some x.1 := by
  rw [List.getElem?_map, hp, ← rowT_of hx]; rfl
 constructor
 ·rintro rfl
  rw [jn_one hm, h]; simp [jn]
 ·intro hj
  rw [jn_more hj hm, h]; simp
theorem repShow_any (vp vr : Value) (pd : List (List UInt8 × List UInt8)) (vs : List Value) (pss : List (List Pt)) (B : Nat) (w : World) (hp : w.ownsRow B 177 2 vp pd.length (cellsD pd)) (hr : RowsAt w B vr vs pss)
  (hd : ∀ p ∈ pd, dayS p.1 ∧ dayS p.2) (hrow : ∀ (i : Nat) ps, pss[i]? = some ps → ∃ n e, Wf n e ps) (hpl : pd.length ≤ 4) (hvl : vs.length ≤ 8) (ht : Tab w) :
  Calls Tryz.prog 72 #[.agg #[vp, vr]] w fun e w' => ∃ u : ByteArray, e = .returned (.string u) ∧ L u = shT pd pss ∧ Below w.heap.size w w' := by
 obtain ⟨aop, capp, rfl⟩ := oForm hp
 obtain ⟨aor, capr, rfl⟩ := oForm hr.own
 have Hlen := hI hr.len
 have Hp := hI hp
 have Hr := hI hr
 have Hd := hI hd
 have Hrow := hI hrow
 have Ht := hI ht
 clear hp hr hd hrow ht
 go_enter Tryz.func72, Tryz.ntmps72
 go_wp2_with fail
 obtain ⟨W, hW⟩ : ∃ W, w.alloc (.cells #[.slice aop pd.length capp, .slice aor vs.length capr] 110) = W := ⟨_, rfl⟩
 rw [hW]
 have hWs : W.heap.size = w.heap.size + 1 := by rw [← hW]; simp
 have HB : Hid (Blk W w.heap.size #[.slice aop pd.length capp, .slice aor vs.length capr] 110) := by rw [← hW]; exact Blk.new _ _ _
 have Hw : Hid (Below w.heap.size w W) := by rw [← hW]; exact (Below.refl _ _).alloc (Nat.le_refl _) _
 have Hp1 := hI (oBelow Hp.u Hw.u)
 have Hr1 := hI (Hr.u.kept Hw.u)
 have Ht1 := hI (Ht.u.below Hw.u)
 clear Hp Hr Ht hW
 go_loopg [3, 11] pd.length (fun m vt i wr => ∃ j : Nat, ∃ u : ByteArray, j ≤ pd.length ∧ m = pd.length - j ∧ i = .int .i64 j ∧ vt = .string u ∧ u.size ≤ 50 * j ∧ Hid (L u = jn 44 ((pd.map perT).take j)) ∧ Hid (Below W.heap.size W wr))
 case atStart => exact ⟨0, ⟨#[]⟩, by omega, rfl, rfl, rfl, Nat.le_refl 0, rfl, Below.refl _ _⟩
 case round =>
  obtain ⟨j, u, hj, rfl, rfl, rfl, hus, Hu, Hb⟩ := hrel
  have hsz := Hb.u.size
  by_cases hlt : j < pd.length
  ·obtain ⟨pj, hpj⟩ : ∃ pj, pd[j]? = some pj := ⟨pd[j], List.getElem?_eq_getElem hlt⟩
   obtain ⟨g2, _, e1, hg2, hg2'⟩ := oSome Hp1.u (by omega)
   simp only [Value.slice.injEq, true_and] at e1
   obtain ⟨rfl, rfl⟩ := e1
   have hc := pair_get (fun p : List UInt8 × List UInt8 => Value.int .i64 (val p.1)) (fun p => Value.int .i64 (val p.2)) pd j pj hpj
   have hro := oBelow Hp1.u Hb.u
   have d1 := oCell hro (j := j * 2) hc.1
   have d2 := oCell hro (j := j * 2 + 1) hc.2
   obtain ⟨p1, p2⟩ := pj
   have hdj := Hd.u _ (List.mem_of_getElem? hpj)
   have hr1 := day_range hdj.1
   have hr2 := day_range hdj.2
   have Hst := hI (fun (t : List UInt8) => per_step (t := t) hpj Hu.u hr1.1 hr2.1)
   simp only at d1 d2 hr1 hr2
   obtain ⟨v1, hv1⟩ : ∃ v1, val p1 = v1 := ⟨_, rfl⟩
   obtain ⟨v2, hv2⟩ : ∃ v2, val p2 = v2 := ⟨_, rfl⟩
   simp only [hv1] at d1 hr1
   simp only [hv2] at d2 hr2
   have Hst2 : Hid (∀ t : List UInt8, t = Lib.itoa v1 ++ 45 :: Lib.itoa v2 → (j = 0 → L u ++ t = jn 44 ((pd.map perT).take (j + 1))) ∧ (0 < j → L u ++ [44] ++ t = jn 44 ((pd.map perT).take (j + 1)))) := by
    intro t ht; exact Hst.u t (by rw [hv1, hv2]; exact ht)
   clear hro hc hpj hdj hv1 hv2 Hst
   by_cases hj0 : j = 0
   ·subst hj0
    go_wp2_with fail
    refine (showPeriod_any v1 v2 _ hr1.1 (by omega) hr2.1 (by omega) (Ht1.u.below (by exact Hb.u.alloc hsz _))).mono ?_
    rintro e w4 ⟨t, rfl, ht, hb4⟩
    have htz : t.size ≤ 45 := by
     rw [size_L, ht, List.length_append, List.length_cons]
     have a1 := Lib.itoa_length_le v1 (by omega) (by omega)
     have a2 := Lib.itoa_length_le v2 (by omega) (by omega)
     omega
    have Hb4 : Hid (Below W.heap.size W w4) := (Hb.u.alloc hsz _).then' (by simp; omega) hb4
    have Hn := hI ((Hst2.u _ ht).1 (by simp))
    clear ht hb4
    go_wp2_with fail
    go_roundg (pd.length - (0 + 1))
    case measure => omega
    case rel => exact ⟨0 + 1, u ++ t, by omega, rfl, by go_num, rfl, by rw [ByteArray.size_append]; omega, by show _ = _; rw [L_append]; exact Hn.u, Hb4.u⟩
   ·have hdd : decide ((0 : Int) < (j : Int)) = true := by simp; omega
    go_wp2_with fail
    refine (showPeriod_any v1 v2 _ hr1.1 (by omega) hr2.1 (by omega) (Ht1.u.below (by exact Hb.u.alloc hsz _))).mono ?_
    rintro e w4 ⟨t, rfl, ht, hb4⟩
    have htz : t.size ≤ 45 := by
     rw [size_L, ht, List.length_append, List.length_cons]
     have a1 := Lib.itoa_length_le v1 (by omega) (by omega)
     have a2 := Lib.itoa_length_le v2 (by omega) (by omega)
     omega
    have Hb4 : Hid (Below W.heap.size W w4) := (Hb.u.alloc hsz _).then' (by simp; omega) hb4
    have Hn := hI ((Hst2.u _ ht).2 (by omega))
    clear ht hb4
    go_wp2_with fail
    go_roundg (pd.length - (j + 1))
    case measure => omega
    case rel => exact ⟨j + 1, u ++ ⟨#[44]⟩ ++ t, by omega, rfl, by go_num, rfl, by rw [ByteArray.size_append, ByteArray.size_append]; show u.size + 1 + t.size ≤ _; omega, by show _ = _; rw [L_append, L_append]; exact Hn.u, Hb4.u⟩
  ·obtain rfl : j = pd.length := by omega
   have HB5 := hI (HB.u.kept Hb.u)
   have c1 := HB5.u.cell 1
   simp only [List.getElem?_toArray, List.getElem?_cons_zero, List.getElem?_cons_succ] at c1
   have hus2 : u.size ≤ 200 := by omega
   have Hu0 : Hid (L u = jn 44 (pd.map perT)) := by
    show _ = _
    rw [Hu.u, List.take_of_length_le (by simp)]
   obtain ⟨W2, hw2⟩ : ∃ W2, W2 = wr := ⟨_, rfl⟩
   subst hw2
   have Hr5 := hI (Hr1.u.kept Hb.u)
   have Ht5 := hI (Ht1.u.below Hb.u)
   clear Hu HB HB5 Hr1 Ht1 Hp1
   go_wp2_with fail
   go_loopg [3, 30] vs.length (fun m vt i wx => ∃ j : Nat, ∃ t : ByteArray, j ≤ vs.length ∧ m = vs.length - j ∧ i = .int .i64 j ∧ vt = .string t ∧ t.size ≤ 5100 * j + 300 ∧ Hid (L t = (L u ++ [124]) ++ jn 59 ((pss.map rowT).take j)) ∧ Hid (Below W2.heap.size W2 wx))
   case atStart => exact ⟨0, u ++ ⟨#[124]⟩, by omega, rfl, rfl, rfl, by rw [ByteArray.size_append]; show u.size + 1 ≤ _; omega, by show _ = _; rw [L_append]; simp [jn, L], Below.refl _ _⟩
   case round =>
    obtain ⟨j, t, hj, rfl, rfl, rfl, hts, Htx, Hb6⟩ := hrel
    have hsz6 := Hb6.u.size
    by_cases hlt : j < vs.length
    ·obtain ⟨vj, hvj⟩ : ∃ vj, vs[j]? = some vj := ⟨vs[j], List.getElem?_eq_getElem hlt⟩
     obtain ⟨pj, hpj⟩ : ∃ pj, pss[j]? = some pj := ⟨pss[j]'(by rw [← Hlen.u]; exact hlt), List.getElem?_eq_getElem _⟩
     have hrj := Hr5.u.row j vj pj hvj hpj
     obtain ⟨aoj, capj, rfl⟩ := oForm hrj
     obtain ⟨g2, _, e1, hg2, hg2'⟩ := oSome Hr5.u.own (by omega)
     simp only [Value.slice.injEq, true_and] at e1
     obtain ⟨rfl, rfl⟩ := e1
     have d1 := oCell (oBelow Hr5.u.own Hb6.u) (j := j) hvj
     obtain ⟨nf, ef, hwf⟩ := Hrow.u j pj hpj
     have Hdp : Hid (dpt pj 0 = some 1) := by
      have := wf_dpt hwf [] 0
      rw [List.append_nil] at this
      exact this
     obtain ⟨x, hx⟩ := wf_show hwf
     have Hx := hI hx
     have Hnum := hI (wf_num hwf)
     have Hbd := hI (Hr5.u.bd pj (List.mem_of_getElem? hpj))
     have Hrj := hI (oBelow hrj Hb6.u)
     have Hst := hI (row_step hpj hx Htx.u)
     clear hrj hvj hpj hwf hx
     by_cases hj0 : j = 0
     ·subst hj0
      go_wp2_with fail
      refine (showRow_any _ pj 0 _ (by exact (oBase Hrj.u (fun _ _ => Nat.zero_le _)).alloc _) Hnum.u Hdp.u x Hx.u Hbd.u (Ht5.u.below (by exact Hb6.u.alloc hsz6 _))).mono ?_
      rintro e w7 ⟨y, rfl, hy, hyz, hb7⟩
      have Hb7 : Hid (Below W2.heap.size W2 w7) := (Hb6.u.alloc hsz6 _).then' (by simp; omega) hb7
      have Hn := hI (Hst.u.1 (by simp))
      have Hy := hI hy
      clear hy hb7
      go_wp2_with fail
      go_roundg (vs.length - (0 + 1))
      case measure => omega
      case rel => exact ⟨0 + 1, t ++ y, by omega, rfl, by go_num, rfl, by rw [ByteArray.size_append]; omega, by show _ = _; rw [L_append, Hy.u]; exact Hn.u, Hb7.u⟩
     ·have hdd : decide ((0 : Int) < (j : Int)) = true := by simp; omega
      go_wp2_with fail
      refine (showRow_any _ pj 0 _ (by exact (oBase Hrj.u (fun _ _ => Nat.zero_le _)).alloc _) Hnum.u Hdp.u x Hx.u Hbd.u (Ht5.u.below (by exact Hb6.u.alloc hsz6 _))).mono ?_
      rintro e w7 ⟨y, rfl, hy, hyz, hb7⟩
      have Hb7 : Hid (Below W2.heap.size W2 w7) := (Hb6.u.alloc hsz6 _).then' (by simp; omega) hb7
      have Hn := hI (Hst.u.2 (by omega))
      have Hy := hI hy
      clear hy hb7
      go_wp2_with fail
      go_roundg (vs.length - (j + 1))
      case measure => omega
      case rel => exact ⟨j + 1, t ++ ⟨#[59]⟩ ++ y, by omega, rfl, by go_num, rfl, by rw [ByteArray.size_append, ByteArray.size_append]; show t.size + 1 + y.size ≤ _; omega, by show _ = _; rw [L_append, L_append, Hy.u]; exact Hn.u, Hb7.u⟩
    ·obtain rfl : j = vs.length := by omega
     go_wp2_with fail
     go_ret
     refine ⟨t, rfl, ?_, ?_⟩
     ·rw [Htx.u, Hu0.u, List.take_of_length_le (by rw [List.length_map, ← Hlen.u]; exact Nat.le_refl _)]
      unfold shT
      simp
     ·exact Hw.u.then' (by omega) (Hb.u.then' (by omega) Hb6.u)
def ShowIs (s u : ByteArray) (er : Int) : Prop :=
 (200 < s.size ∧ er = 1 ∧ u = ⟨#[]⟩) ∨ (s.size ≤ 200 ∧ er = 2 ∧ 0 ≤ plc 0 0 0 0 (L s) ∧ u = ⟨#[]⟩) ∨
 (s.size ≤ 200 ∧ ∃ pd rows pss pl, Db.Form (L s) pd rows pss ∧ outc (pdv pd) pss = (er, pl) ∧ ((¬ er = 0 ∧ u = ⟨#[]⟩) ∨ (er = 0 ∧ L u = shT pd pss ∧ ∀ ps ∈ pss, ps.length ≤ 200)))
theorem dayShow_any (s : ByteArray) (w : World) (hm : s.size ≤ maxLen) (ht : Tab w) :
  Calls Tryz.prog 40 #[.string s] w fun e w' => ∃ (u : ByteArray) (er : Int), e = .returned (.tuple #[.string u, .int .i64 er]) ∧ ShowIs s u er ∧ Below w.heap.size w w' := by
 by_cases hs : 200 < s.size
 ·go_enter Tryz.func40, Tryz.ntmps40
  go_wp2_with fail
  refine (read_long s _ hs hm).mono ?_
  rintro e w1 ⟨rfl, hb⟩
  have Hb := hI hb
  have hsz := hb.size
  clear hb
  go_wp2_with fail
  go_ret2
  exact ⟨_, 1, rfl, .inl ⟨hs, rfl, rfl⟩, Hb.u.alloc hsz _⟩
 ·have hs' : s.size ≤ 200 := by omega
  have Ht := hI ht
  clear ht
  go_enter Tryz.func40, Tryz.ntmps40
  go_wp2_with fail
  refine (read_short s _ hs').mono ?_
  rintro e w1 ⟨hb, ⟨p, rfl, hp, hp0⟩ | ⟨vp, vr, pd, rows, pss, er, pl, rfl, hf, ho, hz, hok⟩⟩
  ·have Hb := hI hb
   have hsz := hb.size
   have Hc : Hid (ShowIs s ⟨#[]⟩ 2) := .inr (.inl ⟨hs', rfl, by rw [hp]; exact hp0, rfl⟩)
   clear hb hp
   go_wp2_with fail
   go_ret2
   exact ⟨_, 2, rfl, Hc.u, Hb.u.alloc hsz _⟩
  ·have Hb := hI hb
   have hsz := hb.size
   by_cases h0 : er = 0
   ·subst h0
    obtain ⟨hvp, vs, hvr⟩ := hok rfl
    obtain ⟨a1, k1, rfl⟩ := oForm hvp
    obtain ⟨a2, k2, rfl⟩ := oForm hvr.own
    have hsm := outc_small ho rfl
    have hpl : pd.length ≤ 4 := by have := hsm.1; simpa [pdv] using this
    have hvl : vs.length ≤ 8 := by rw [hvr.len]; exact hsm.2.1
    have Hf := hI hf
    have Ho := hI ho
    have Hvp := hI hvp
    have Hvr := hI hvr
    clear hb hf ho hz hok hvp hvr hsm
    go_wp2_with fail
    refine (repShow_any _ _ pd vs pss w.heap.size _ (by exact Hvp.u.alloc _) (by exact Hvr.u.kept ((Below.refl _ _).alloc (Nat.le_refl _) _)) Hf.u.sht.days ?_ hpl hvl (Ht.u.below (by exact Hb.u.alloc hsz _))).mono ?_
    ·intro i ps hps
     obtain ⟨e, he⟩ : ∃ e, rows[i]? = some e := by
      have h1 := (List.getElem?_eq_some_iff.1 hps).1
      exact ⟨rows[i]'(by rw [Hf.u.len]; exact h1), List.getElem?_eq_getElem _⟩
     obtain ⟨n, hn⟩ := (Hf.u.row i e ps he hps).wf
     exact ⟨n, e, hn⟩
    ·rintro e w2 ⟨u, rfl, hu, hb2⟩
     have Hu := hI hu
     have Hb2 : Hid (Below w.heap.size w w2) := (Hb.u.alloc hsz _).then' (by simp; omega) hb2
     clear hu hb2
     go_wp2_with fail
     go_ret2
     exact ⟨u, 0, rfl, .inr (.inr ⟨hs', pd, rows, pss, pl, Hf.u, Ho.u, .inr ⟨rfl, Hu.u, Hvr.u.bd⟩⟩), Hb2.u⟩
   ·obtain ⟨rfl, rfl⟩ := hz h0
    have Hc : Hid (ShowIs s ⟨#[]⟩ er) := .inr (.inr ⟨hs', pd, rows, pss, pl, hf, ho, .inl ⟨h0, rfl⟩⟩)
    have hne : (er == 0) = false := by simpa using h0
    clear hb hf ho hz hok
    go_wp2_with fail
    go_ret2
    exact ⟨_, er, rfl, Hc.u, Hb.u.alloc hsz _⟩
theorem op_cases {o : Int} (h : opB o = true) : o = ((43 : UInt8).toNat : Int) ∨ o = ((45 : UInt8).toNat : Int) ∨ o = ((42 : UInt8).toNat : Int) ∨ o = ((47 : UInt8).toNat : Int) := by
 unfold opB at h
 simp only [Bool.or_eq_true, beq_iff_eq] at h
 simp
 omega
theorem show_any (n : Nat) : ShowC n := by
 induction n with
 | zero => intro s ps w hs hw; exact absurd hw (by simp [Wf])
 | succ n ih =>
  intro s ps w hs hw hl
  rcases hw with ⟨hc, hop⟩ | ⟨hc, hw⟩ | ⟨hc, p, hw, rfl⟩ | ⟨hc, p, q, hp, hq, rfl⟩
  ·exact show_leaf s ps w hs hc hop
  ·exact show_par n ih s ps w hs hc hw hl
  ·exact show_neg n ih s p w hs hc hw (by simp at hl; omega)
  ·simp only [List.length_append, List.length_cons, List.length_nil] at hl
   rcases op_cases hc with h | h | h | h
   ·rw [h]; exact show_sum n ih s 43 p q w hs (.inl rfl) h hp hq (by omega) (by omega)
   ·rw [h]; exact show_sum n ih s 45 p q w hs (.inr rfl) h hp hq (by omega) (by omega)
   ·rw [h]; exact show_prod n ih s 42 p q w hs (.inl rfl) h hp hq (by omega) (by omega)
   ·rw [h]; exact show_prod n ih s 47 p q w hs (.inr rfl) h hp hq (by omega) (by omega)
theorem per_step' {pd : List (List UInt8 × List UInt8)} {j : Nat} {p : List UInt8 × List UInt8} (hp : pd[j]? = some p) {u a b : List UInt8} (h : u = jn 44 ((pd.map perT).take j)) {n m : Nat} (h0 : val p.1 = n) (h1 : val p.2 = m) (ha : a = Lib.decDigits n) (hb : b = Lib.decDigits m) :
  (j = 0 → u ++ a ++ [45] ++ b = jn 44 ((pd.map perT).take (j + 1))) ∧ (0 < j → u ++ [44] ++ a ++ [45] ++ b = jn 44 ((pd.map perT).take (j + 1))) := by
 have h2 := per_step hp h (t := a ++ 45 :: b) (by omega) (by omega) (by rw [itoa_pos (by omega), itoa_pos (by omega), h0, h1, ha, hb]; rfl)
 refine ⟨fun hj => ?_, fun hj => ?_⟩
 ·rw [← h2.1 hj]; simp
 ·rw [← h2.2 hj]; simp
theorem refShow_ok (s : ByteArray) (w : World) (hs : s.size ≤ 200) (pd : List (List UInt8 × List UInt8)) (rows : List (List UInt8)) (pss : List (List Pt)) (hf : Db.Form (L s) pd rows pss) (pl : Int) (ho : outc (pdv pd) pss = (0, pl)) (hbd : ∀ ps ∈ pss, ps.length ≤ 200) :
  Calls Tryz.prog 90 #[.string s] w fun e w' => ∃ u : ByteArray, e = .returned (.tuple #[.string u, .int .i64 0]) ∧ L u = shT pd pss ∧ Below w.heap.size w w' := by
 have hsm := outc_small ho rfl
 have hpl : pd.length ≤ 4 := by have := hsm.1; simpa [pdv] using this
 have hvl := hsm.2.1
 have hlen := hf.len
 have hne : 0 < pss.length := by
  rw [← hlen]
  obtain ⟨x, y, _, _, hy⟩ := hf.sht.parts
  rw [← hy]
  exact List.length_pos_iff.2 (split_ne _ _)
 have Hf := hI hf
 have Ho := hI ho
 have Hbd := hI hbd
 clear hf ho hbd hsm
 go_enter Tryz.func90, Tryz.ntmps90
 go_wp2_with fail
 refine (refRead_ok s _ hs pd rows pss Hf.u).mono ?_
 rintro e w1 ⟨a1, n1, k1, a2, n2, k2, a3, n3, k3, er', pl', rfl, ho', hb, hsh⟩
 have hh := Ho.u.symm.trans ho'
 simp only [Prod.mk.injEq] at hh
 obtain ⟨rfl, rfl⟩ := hh
 obtain ⟨ss, hss, hat⟩ := hsh rfl
 obtain ⟨_, _, e1⟩ := oForm hat.rf
 simp only [Value.slice.injEq] at e1
 obtain ⟨rfl, rfl, rfl⟩ := e1
 obtain ⟨_, _, e1⟩ := oForm hat.rt
 simp only [Value.slice.injEq] at e1
 obtain ⟨rfl, rfl, rfl⟩ := e1
 obtain ⟨_, _, e1⟩ := oForm hat.rr
 simp only [Value.slice.injEq] at e1
 obtain ⟨rfl, rfl, rfl⟩ := e1
 have hsl : ss.length = pss.length := by rw [← hlen, ← hss, List.length_map]
 have Hsl := hI hsl
 have hsl8 : 0 < ss.length ∧ ss.length ≤ 8 := by omega
 have Hss := hI hss
 have Hat := hI hat
 have Hb := hI hb
 have hsz := hb.size
 clear hss hat hsh hb ho' hsl hlen hne hvl
 go_wp2_with fail
 obtain ⟨W, hW⟩ : ∃ W, w1.alloc (.cells #[.slice a1 pd.length k1, .slice a2 pd.length k2, .slice a3 ss.length k3] 129) = W := ⟨_, rfl⟩
 rw [hW]
 have HB : Hid (Blk W w1.heap.size #[.slice a1 pd.length k1, .slice a2 pd.length k2, .slice a3 ss.length k3] 129) := by rw [← hW]; exact Blk.new _ _ _
 have Hw : Hid (Below w.heap.size w W) := by rw [← hW]; exact Hb.u.alloc hsz _
 have Hat1 : Hid (SheetAt W w.heap.size (.slice a1 pd.length k1) (.slice a2 pd.length k2) (.slice a3 ss.length k3) pd ss) := by rw [← hW]; exact Hat.u.alloc _
 have hWs : W.heap.size = w1.heap.size + 1 := by rw [← hW]; simp
 clear Hat hW Hb
 go_loopg [7, 8] pd.length (fun m vt i wr => ∃ j : Nat, ∃ u : ByteArray, j ≤ pd.length ∧ m = pd.length - j ∧ i = .int .i64 j ∧ vt = .string u ∧ u.size ≤ 50 * j ∧ Hid (L u = jn 44 ((pd.map perT).take j)) ∧ Hid (Below W.heap.size W wr))
 case atStart => exact ⟨0, ⟨#[]⟩, by omega, rfl, rfl, rfl, Nat.le_refl 0, rfl, Below.refl _ _⟩
 case round =>
  obtain ⟨j, u, hj, rfl, rfl, rfl, hus, Hu, Hb⟩ := hrel
  have hsz2 := Hb.u.size
  have HB2 := hI (HB.u.kept Hb.u)
  have c0 := HB2.u.cell 0
  have c1 := HB2.u.cell 1
  have c2 := HB2.u.cell 2
  simp only [List.getElem?_toArray, List.getElem?_cons_zero, List.getElem?_cons_succ] at c0 c1 c2
  by_cases hlt : j < pd.length
  ·obtain ⟨pj, hpj⟩ : ∃ pj, pd[j]? = some pj := ⟨pd[j], List.getElem?_eq_getElem hlt⟩
   obtain ⟨g1, _, e1, hg1, hg1'⟩ := oSome Hat1.u.rf (by omega)
   simp only [Value.slice.injEq, true_and] at e1
   obtain ⟨rfl, rfl⟩ := e1
   obtain ⟨g2, _, e1, hg2, hg2'⟩ := oSome Hat1.u.rt (by omega)
   simp only [Value.slice.injEq, true_and] at e1
   obtain ⟨rfl, rfl⟩ := e1
   have hdj := Hf.u.sht.days _ (List.mem_of_getElem? hpj)
   have hr1 := day_range hdj.1
   have hr2 := day_range hdj.2
   obtain ⟨v1, hv1⟩ : ∃ v1 : Nat, val pj.1 = v1 := ⟨(val pj.1).toNat, by omega⟩
   obtain ⟨v2, hv2⟩ : ∃ v2 : Nat, val pj.2 = v2 := ⟨(val pj.2).toNat, by omega⟩
   have hl1 : v1 ≤ 999 := by omega
   have hl2 : v2 ≤ 999 := by omega
   have d1 := oCell (oBelow Hat1.u.rf Hb.u) (j := j) (u := .int .i64 (v1 : Int)) (by rw [List.getElem?_map, hpj, ← hv1]; rfl)
   have Hd2 := hI (fun (wx : World) (h : Below W.heap.size W wx) => oCell (oBelow Hat1.u.rt h) (j := j) (u := .int .i64 (v2 : Int)) (by rw [List.getElem?_map, hpj, ← hv2]; rfl))
   have Hst := hI (fun (a b : List UInt8) => per_step' (a := a) (b := b) hpj Hu.u hv1 hv2)
   clear hpj hdj hv1 hv2 hr1 hr2
   by_cases hj0 : j = 0
   ·subst hj0
    go_wp2_with fail
    refine (number10_any v1 _ (by omega) (by omega)).mono ?_
    rintro e w4 ⟨a, rfl, ha, hb4⟩
    rw [itoa_pos (by omega), Int.toNat_natCast] at ha
    have haz : a.size ≤ 3 := by rw [size_L, ha]; exact decDigits_small _ hl1
    have Hb4 : Hid (Below W.heap.size W w4) := Hb.u.then' (by omega) hb4
    have HB4 := hI (HB.u.kept Hb4.u)
    have c4 := HB4.u.cell 1
    simp only [List.getElem?_toArray, List.getElem?_cons_zero, List.getElem?_cons_succ] at c4
    have d2 := Hd2.u _ Hb4.u
    have hsz4 := hb4.size
    have Ha := hI ha
    clear ha hb4
    go_wp2_with fail
    refine (number10_any v2 _ (by omega) (by omega)).mono ?_
    rintro e w5 ⟨b, rfl, hb, hb5⟩
    rw [itoa_pos (by omega), Int.toNat_natCast] at hb
    have hbz : b.size ≤ 3 := by rw [size_L, hb]; exact decDigits_small _ hl2
    have Hb5 : Hid (Below W.heap.size W w5) := Hb4.u.then' (by omega) hb5
    have Hn := hI ((Hst.u _ _ Ha.u hb).1 (by simp))
    clear hb hb5
    go_wp2_with fail
    go_roundg (pd.length - (0 + 1))
    case measure => omega
    case rel => exact ⟨0 + 1, u ++ a ++ ⟨#[45]⟩ ++ b, by omega, rfl, by go_num, rfl, by rw [ByteArray.size_append, ByteArray.size_append, ByteArray.size_append]; show u.size + a.size + 1 + b.size ≤ _; omega, by show _ = _; rw [L_append, L_append, L_append]; exact Hn.u, Hb5.u⟩
   ·have hdd : decide ((0 : Int) < (j : Int)) = true := by simp; omega
    go_wp2_with fail
    refine (number10_any v1 _ (by omega) (by omega)).mono ?_
    rintro e w4 ⟨a, rfl, ha, hb4⟩
    rw [itoa_pos (by omega), Int.toNat_natCast] at ha
    have haz : a.size ≤ 3 := by rw [size_L, ha]; exact decDigits_small _ hl1
    have Hb4 : Hid (Below W.heap.size W w4) := Hb.u.then' (by omega) hb4
    have HB4 := hI (HB.u.kept Hb4.u)
    have c4 := HB4.u.cell 1
    simp only [List.getElem?_toArray, List.getElem?_cons_zero, List.getElem?_cons_succ] at c4
    have d2 := Hd2.u _ Hb4.u
    have hsz4 := hb4.size
    have Ha := hI ha
    clear ha hb4
    go_wp2_with fail
    refine (number10_any v2 _ (by omega) (by omega)).mono ?_
    rintro e w5 ⟨b, rfl, hb, hb5⟩
    rw [itoa_pos (by omega), Int.toNat_natCast] at hb
    have hbz : b.size ≤ 3 := by rw [size_L, hb]; exact decDigits_small _ hl2
    have Hb5 : Hid (Below W.heap.size W w5) := Hb4.u.then' (by omega) hb5
    have Hn := hI ((Hst.u _ _ Ha.u hb).2 (by omega))
    clear hb hb5
    go_wp2_with fail
    go_roundg (pd.length - (j + 1))
    case measure => omega
    case rel => exact ⟨j + 1, u ++ ⟨#[44]⟩ ++ a ++ ⟨#[45]⟩ ++ b, by omega, rfl, by go_num, rfl, by rw [ByteArray.size_append, ByteArray.size_append, ByteArray.size_append, ByteArray.size_append]; show u.size + 1 + a.size + 1 + b.size ≤ _; omega, by show _ = _; rw [L_append, L_append, L_append, L_append]; exact Hn.u, Hb5.u⟩
  ·obtain rfl : j = pd.length := by omega
   have hus2 : u.size ≤ 200 := by omega
   have Hu0 : Hid (L u = jn 44 (pd.map perT)) := by
    show _ = _
    rw [Hu.u, List.take_of_length_le (by simp)]
   obtain ⟨W2, hw2⟩ : ∃ W2, W2 = wr := ⟨_, rfl⟩
   subst hw2
   have Hat5 := hI (Hat1.u.kept Hb.u)
   clear Hu Hat1
   go_wp2_with fail
   go_loopg [7, 11] ss.length (fun m vt i wx => ∃ j : Nat, ∃ t : ByteArray, j ≤ ss.length ∧ m = ss.length - j ∧ i = .int .i64 j ∧ vt = .string t ∧ t.size ≤ 5100 * j + 300 ∧ Hid (L t = (if j = 0 then L u else (L u ++ [124]) ++ jn 59 ((pss.map rowT).take j))) ∧ Hid (Below W2.heap.size W2 wx))
   case atStart => exact ⟨0, u, by omega, rfl, rfl, rfl, by omega, rfl, Below.refl _ _⟩
   case round =>
    obtain ⟨j, t, hj, rfl, rfl, rfl, hts, Htx, Hb6⟩ := hrel
    have hsz6 := Hb6.u.size
    have HB6 := hI (HB2.u.kept Hb6.u)
    have c6 := HB6.u.cell 2
    simp only [List.getElem?_toArray, List.getElem?_cons_zero, List.getElem?_cons_succ] at c6
    by_cases hlt : j < ss.length
    ·obtain ⟨vj, hvj⟩ : ∃ vj, ss[j]? = some vj := ⟨ss[j], List.getElem?_eq_getElem hlt⟩
     obtain ⟨pj, hpj⟩ : ∃ pj, pss[j]? = some pj := ⟨pss[j]'(by rw [← Hsl.u]; exact hlt), List.getElem?_eq_getElem _⟩
     obtain ⟨g2, _, e1, hg2, hg2'⟩ := oSome Hat5.u.rr (by omega)
     simp only [Value.slice.injEq, true_and] at e1
     obtain ⟨rfl, rfl⟩ := e1
     have d1 := oCell (oBelow Hat5.u.rr Hb6.u) (j := j) (u := .string vj) (by rw [List.getElem?_map, hvj]; rfl)
     have hrj := Hf.u.row j (L vj) pj (by rw [← Hss.u, List.getElem?_map, hvj]; rfl) hpj
     obtain ⟨nf, hwf⟩ := hrj.wf
     have hvz : vj.size ≤ 200 := by rw [size_L]; exact hrj.len
     have Hwf := hI hwf
     have hbj := Hbd.u pj (List.mem_of_getElem? hpj)
     have Hst := hI (fun (x : Pc) (hx : ShowR pj x) => row_step (a := L u ++ [124]) (u := (L u ++ [124]) ++ jn 59 ((pss.map rowT).take j)) hpj hx rfl)
     clear hrj hvj hpj hwf
     by_cases hj0 : j = 0
     ·subst hj0
      go_wp2_with fail
      refine (show_any nf vj pj _ hvz Hwf.u hbj).mono ?_
      rintro e w7 ⟨y, x, rfl, hx, hy, hb7⟩
      have hyz := show_size Hwf.u hbj hx hy
      have Hb7 : Hid (Below W2.heap.size W2 w7) := Hb6.u.then' (by omega) hb7
      have Hn := hI ((Hst.u x hx).1 (by simp))
      have Hy := hI hy
      clear hy hb7 hx
      go_wp2_with fail
      go_roundg (ss.length - (0 + 1))
      case measure => omega
      case rel =>
       refine ⟨0 + 1, t ++ ⟨#[124]⟩ ++ y, by omega, rfl, by go_num, rfl, by rw [ByteArray.size_append, ByteArray.size_append]; show t.size + 1 + y.size ≤ _; omega, ?_, Hb7.u⟩
       show _ = _
       have h1 := Htx.u
       rw [if_pos (by simp)] at h1
       rw [if_neg (by omega), L_append, L_append, Hy.u, h1, ← Hn.u]
       simp [jn, L]
     ·have hdd : ((j : Int) == 0) = false := by simp; omega
      go_wp2_with fail
      refine (show_any nf vj pj _ hvz Hwf.u hbj).mono ?_
      rintro e w7 ⟨y, x, rfl, hx, hy, hb7⟩
      have hyz := show_size Hwf.u hbj hx hy
      have Hb7 : Hid (Below W2.heap.size W2 w7) := Hb6.u.then' (by omega) hb7
      have Hn := hI ((Hst.u x hx).2 (by omega))
      have Hy := hI hy
      clear hy hb7 hx
      go_wp2_with fail
      go_roundg (ss.length - (j + 1))
      case measure => omega
      case rel =>
       refine ⟨j + 1, t ++ ⟨#[59]⟩ ++ y, by omega, rfl, by go_num, rfl, by rw [ByteArray.size_append, ByteArray.size_append]; show t.size + 1 + y.size ≤ _; omega, ?_, Hb7.u⟩
       show _ = _
       have h1 := Htx.u
       rw [if_neg (by omega)] at h1
       rw [if_neg (by omega), L_append, L_append, Hy.u, h1, ← Hn.u]
       simp [L]
    ·obtain rfl : j = ss.length := by omega
     go_wp2_with fail
     go_ret2
     refine ⟨t, rfl, ?_, ?_⟩
     ·have h1 := Htx.u
      rw [if_neg (by omega)] at h1
      rw [h1, Hu0.u, List.take_of_length_le (by rw [List.length_map, ← Hsl.u]; exact Nat.le_refl _)]
      unfold shT
      simp
     ·exact Hw.u.then' (by omega) (Hb.u.then' (by omega) Hb6.u)
theorem refShow_any (s u : ByteArray) (w : World) (hm : s.size ≤ maxLen) (er : Int) (hc : ShowIs s u er) :
  Calls Tryz.prog 90 #[.string s] w fun e w' => e = .returned (.tuple #[.string u, .int .i64 er]) ∧ Below w.heap.size w w' := by
 rcases hc with ⟨hs, rfl, rfl⟩ | ⟨hs, rfl, hp, rfl⟩ | ⟨hs, pd, rows, pss, pl, hf, ho, ⟨h0, rfl⟩ | ⟨rfl, hu, hbd⟩⟩
 ·go_enter Tryz.func90, Tryz.ntmps90
  go_wp2_with fail
  refine (refRead_long s _ hs hm).mono ?_
  rintro e w1 ⟨rfl, hb⟩
  have Hb := hI hb
  have hsz := hb.size
  clear hb
  go_wp2_with fail
  go_ret2
  exact ⟨rfl, Hb.u.alloc hsz _⟩
 ·obtain ⟨p, hpp⟩ : ∃ p, plc 0 0 0 0 (L s) = p := ⟨_, rfl⟩
  have Hp := hI hp
  have Hpp := hI hpp
  clear hp hpp
  go_enter Tryz.func90, Tryz.ntmps90
  go_wp2_with fail
  refine (refRead_form s _ hs Hp.u).mono ?_
  rintro e w1 ⟨rfl, hb⟩
  rw [Hpp.u]
  have Hb := hI hb
  have hsz := hb.size
  clear hb
  go_wp2_with fail
  go_ret2
  exact ⟨rfl, Hb.u.alloc hsz _⟩
 ·have Hf := hI hf
  have Ho := hI ho
  have hne : (er == 0) = false := by simpa using h0
  clear hf ho
  go_enter Tryz.func90, Tryz.ntmps90
  go_wp2_with fail
  refine (refRead_ok s _ hs pd rows pss Hf.u).mono ?_
  rintro e w1 ⟨a1, n1, k1, a2, n2, k2, a3, n3, k3, er', pl', rfl, ho', hb, _⟩
  have hh := Ho.u.symm.trans ho'
  simp only [Prod.mk.injEq] at hh
  obtain ⟨rfl, rfl⟩ := hh
  have Hb := hI hb
  have hsz := hb.size
  clear hb ho'
  go_wp2_with fail
  go_ret2
  exact ⟨rfl, Hb.u.alloc hsz _⟩
 ·refine (refShow_ok s w hs pd rows pss hf pl ho hbd).mono ?_
  rintro e w1 ⟨u', rfl, hu', hb⟩
  obtain rfl : u' = u := L_inj (hu'.trans hu.symm)
  exact ⟨rfl, hb⟩
theorem shows_walk (a0 : ByteArray) (w0 : a0.size ≤ maxLen) (w : World) (ht : Tab w) :
  Calls Tryz.prog 52 #[.string a0] w fun e w' => e = .returned (.bool true) ∧ Below w.heap.size w w' := by
 have Ht := hI ht
 clear ht
 go_enter Tryz.func52, Tryz.ntmps52
 go_wp2_with fail
 refine (dayShow_any a0 _ w0 Ht.u).mono ?_
 rintro e w1 ⟨u, er, rfl, hc, hb1⟩
 have Hc := hI hc
 have Hb1 := hI hb1
 clear hc hb1
 go_wp2_with fail
 refine (refShow_any a0 u _ w0 er Hc.u).mono ?_
 rintro e w2 ⟨rfl, hb2⟩
 have Hb2 := hI (Hb1.u.then hb2)
 have e1 : (er == er) = true := by simp
 clear hb2
 go_wp2_with fail
 go_ret
 exact ⟨rfl, Hb2.u⟩
theorem looksD_any (D : Nat → Prop) (B q : Nat) (s : Bk) (n : Nat) (w : World) (h : PairD D w B q s n) :
  Calls Tryz.prog 24 #[.pointer (some ⟨q, 0, none⟩)] w fun e w' => e = .returned (.bool true) ∧ Below w.heap.size w w' := by
 obtain ⟨p, c, vh, vl, va, vt, tv, d, vp, vc, vt2, tv2, hs, h, hn⟩ := h
 exact looks_any B q _ _ vh vl hs w h.blk h.hds (by have := h.few; omega)
theorem toldD_any (D : Nat → Prop) (B q : Nat) (s : Bk) (n : Nat) (w : World) (h : PairD D w B q s n) (ht : Tab w) :
  Calls Tryz.prog 23 #[.pointer (some ⟨q, 0, none⟩)] w fun e w' => e = .returned (.bool true) ∧ Below w.heap.size w w' := by
 obtain ⟨p, c, vh, vl, va, vt, tv, d, vp, vc, vt2, tv2, hs, h, hn⟩ := h
 exact told_any B q p c vh vl s w h.blk ⟨va, vt, tv, d, h.led⟩ ⟨vp, vc, vt2, tv2, h.rfd⟩ ht
theorem begunD_any (B : Nat) (w : World) (hB : B ≤ w.heap.size) :
  Calls Tryz.prog 46 #[] w fun e w' => ∃ q, e = .returned (.pointer (some ⟨q, 0, none⟩)) ∧ PairD (fun k => w.heap.size ≤ k ∧ k < w'.heap.size) w' B q bk0 0 ∧ Below w.heap.size w w' := by
 go_enter Tryz.func46, Tryz.ntmps46
 go_wp2_with fail
 refine (dayNew_any _).mono ?_
 rintro e w1 ⟨p, rfl, hp, hb1⟩
 have Hp := hI hp
 have Hb1 := hI hb1
 clear hp hb1
 go_wp2_with fail
 refine (refNew_any _).mono ?_
 rintro e w2 ⟨c, rfl, hc, hb2⟩
 have HL : Hid (LedW w2 w.heap.size p 0 [] bk0) := by
  obtain ⟨va, vt, tv, vw, h⟩ := Hp.u
  exact ⟨_, _, _, _, h.kept hb2⟩
 have HR : Hid (Rfd w2 w.heap.size c bk0) := by
  obtain ⟨vp, vc, vu, tu, h⟩ := hc
  have hbs := Hb1.u.size
  exact ⟨_, _, _, _, h.base hbs⟩
 have Hb2 := hI (Hb1.u.then hb2)
 have hsz2 := Hb2.u.size
 clear hc hb2
 go_wp2_with fail
 go_ret
 have hal : Below w2.heap.size w2 (w2.alloc (Obj.cells #[Value.pointer (some { block := p, off := 0 }), Value.pointer (some { block := c, off := 0 }), Value.slice none 0 0, Value.slice none 0 0] 30)) := (Below.refl _ _).alloc (Nat.le_refl _) _
 obtain ⟨va, vt, tv, vw, h1⟩ := HL.u
 obtain ⟨vp, vc, vu, tu, h2⟩ := HR.u
 have hpa : PairAt (w2.alloc (Obj.cells #[Value.pointer (some { block := p, off := 0 }), Value.pointer (some { block := c, off := 0 }), Value.slice none 0 0, Value.slice none 0 0] 30)) w.heap.size w2.heap.size p c bk0 := ⟨Blk.new _ _ _, ⟨_, _, _, _, h1.kept hal⟩, ⟨_, _, _, _, h2.kept hal⟩⟩
 exact ⟨_, rfl, hpa.dom hsz2 hB ⟨va, vt, tv, _, h1.kept hal, by intro x hx; simp at hx⟩, Hb2.u.alloc hsz2 _⟩
theorem info_pp : (Tryz.prog.info? 25).map (fun i => (i.zero, i.size, i.bytes)) = some (some (.pointer none), 1, 8) := by kernel_rfl
theorem step_any (B wd : Nat) (vb vc : Value) (ps : List Pr) (cs : List (ByteArray × ByteArray)) (M : Nat) (x : ActV) (w : World) (h : Wld w B wd vb vc ps cs M) (hM : M ≤ 1999999999990) (hx : ActOk w B x) (hr0 : -9223372036854775808 ≤ x.bk) (hr1 : x.bk ≤ 9223372036854775807) (ht : Tab w) :
  Calls Tryz.prog 22 #[.pointer (some ⟨wd, 0, none⟩), x.val] w fun e w' => e = .returned (.bool true) ∧ (∃ vb' vc' ps' cs', Wld w' B wd vb' vc' ps' cs' (M + 1)) ∧ Below B w w' := by
 obtain ⟨ip, hip, hp0, hp1, hp2⟩ := info_parts info_pp
 have hpl := h.pl
 have hcl := h.cl
 have hlo := h.lo
 have hwl := h.blk.lt
 have hBw : B ≤ w.heap.size := by omega
 obtain ⟨ab, cb, rfl⟩ := oForm h.books
 obtain ⟨kd, bk, a, b, ao, cap, ls, t⟩ := x
 have Hok := hI hx
 obtain ⟨hl, hlo', hn, hm⟩ := hx
 simp only at hl hlo' hn hm hr0 hr1
 have hv : (ActV.mk kd bk a b ao cap ls t).val = .agg #[.int .i64 kd, .int .i64 bk, .int .i64 a, .int .i64 b, .slice ao ls.length cap, .string t] := rfl
 rw [hv]
 obtain ⟨bx, hbx⟩ : ∃ bx, w.heap.size = bx := ⟨_, rfl⟩
 obtain ⟨W, hW⟩ : ∃ W, w.alloc (.cells #[.int .i64 kd, .int .i64 bk, .int .i64 a, .int .i64 b, .slice ao ls.length cap, .string t] 33) = W := ⟨_, rfl⟩
 have HX : Hid (Blk W bx #[.int .i64 kd, .int .i64 bk, .int .i64 a, .int .i64 b, .slice ao ls.length cap, .string t] 33) := by rw [← hW, ← hbx]; exact Blk.new _ _ _
 have Hb0 : Hid (Below w.heap.size w W) := by rw [← hW]; exact (Below.refl _ _).alloc (Nat.le_refl _) _
 have hWs : w.heap.size ≤ W.heap.size := Hb0.u.size
 have H0 := hI (h.kept Hb0.u)
 have HT0 := hI (ht.below Hb0.u)
 have HOk0 : Hid (ActOk W B ⟨kd, bk, a, b, ao, cap, ls, t⟩) := ⟨hl.kept Hb0.u, hlo', hn, hm⟩
 have x0 := HX.u.cell 0
 have x1 := HX.u.cell 1
 have x2 := HX.u.cell 2
 have x3 := HX.u.cell 3
 have x4 := HX.u.cell 4
 have x5 := HX.u.cell 5
 have lx := HX.u.lt
 simp only [List.getElem?_toArray, List.getElem?_cons_zero, List.getElem?_cons_succ] at x0 x1 x2 x3 x4 x5
 clear h ht hl hlo' hv
 by_cases k8 : kd = 8
 ·subst k8
  have Hc := hI (checks_walk t hm W)
  go_enter Tryz.func22, Tryz.ntmps22
  go_wp2_with fail
  try rw [hW]
  refine Hc.u.mono ?_
  rintro e w1 ⟨rfl, hb1⟩
  have Hb1 := hI hb1
  clear hb1
  go_wp2_with fail
  go_ret
  exact ⟨rfl, ⟨_, _, _, _, (H0.u.kept Hb1.u).more⟩, (Hb0.u.then' hWs Hb1.u).mono hBw⟩
 by_cases k9 : kd = 9
 ·subst k9
  have Hc := hI (shows_walk t hm W HT0.u)
  go_enter Tryz.func22, Tryz.ntmps22
  go_wp2_with fail
  try rw [hW]
  refine Hc.u.mono ?_
  rintro e w1 ⟨rfl, hb1⟩
  have Hb1 := hI hb1
  clear hb1
  go_wp2_with fail
  go_ret
  exact ⟨rfl, ⟨_, _, _, _, (H0.u.kept Hb1.u).more⟩, (Hb0.u.then' hWs Hb1.u).mono hBw⟩
 by_cases k7 : kd = 7
 ·subst k7
  have Hc := hI (begunD_any B W (by omega))
  clear k8 k9
  go_enter Tryz.func22, Tryz.ntmps22
  go_wp2_with fail
  try rw [hW]
  refine Hc.u.mono ?_
  rintro e w1 ⟨q, rfl, hp, hb1⟩
  have hs1 := hb1.size
  have H1 := hI (H0.u.kept hb1)
  have Hp := hI hp
  have Hb1 := hI hb1
  have c0 := H1.u.blk.cell 0
  have l0 := H1.u.blk.lt
  simp only [List.getElem?_toArray, List.getElem?_cons_zero] at c0
  clear hp hb1 x0 x1 x2 x3 x4 x5
  go_wp2_with (first
   | (at_builtin; refine wpList_append_own_at _ rfl (.tmp 30) (.tmp 32) 45 rfl B 25 ip (.pointer none) 1 8 Tryz.underlying45 hip hp0 hp1 hp2 rfl (by decide) (.slice ab ps.length cb) ps.length _ rfl (H1.u.books.alloc _) ⟨_, 0, none⟩ 1 1 [.pointer (some ⟨q, 0, none⟩)] rfl rfl (new1 _ _ (by simp) _ _) (fun x hx => by simp at hx; subst hx; rfl) (by unfold maxLen; omega) (by omega) (by simp; omega) ?_; intro vb2 wa hown hgr _ hat; obtain ⟨ab2, cb2, rfl⟩ := oForm hown; have hblk := (H1.u.blk.alloc _).grown hgr (blk_own_ne H1.u.blk H1.u.books (by decide)); have e0 := hblk.cell 0; have z0 := hblk.frozen 0; have l5 := hblk.lt; simp only [List.getElem?_toArray, List.getElem?_cons_zero] at e0; have HA := hI (H0.u.add Hb1.u Hp.u (fun k hk => hk.1) hgr hown hat); clear hown hgr hat hblk c0))
  go_ret
  exact ⟨rfl, ⟨_, _, _, _, HA.u.1⟩, (Hb0.u.mono hBw).trans HA.u.2⟩
 have e8 : (kd == 8) = false := by simpa using k8
 have e9 : (kd == 9) = false := by simpa using k9
 have e7 : (kd == 7) = false := by simpa using k7
 have c0 := H0.u.blk.cell 0
 have l0 := H0.u.blk.lt
 simp only [List.getElem?_toArray, List.getElem?_cons_zero] at c0
 by_cases hz : ps.length = 0
 ·rw [hz] at c0
  go_enter Tryz.func22, Tryz.ntmps22
  go_wp2_with fail
  try rw [hW]
  go_ret
  exact ⟨rfl, ⟨_, _, _, _, H0.u.more⟩, Hb0.u.mono hBw⟩
 have hpi := lpck_in (c := bk) (n := (ps.length : Int)) (by omega)
 obtain ⟨j, hj⟩ : ∃ j : Nat, lpck bk (ps.length : Int) = (j : Int) := ⟨(lpck bk (ps.length : Int)).toNat, by omega⟩
 have hjl : j < ps.length := by omega
 have Hpk := hI (fun (wx : World) => lpick_any bk (ps.length : Int) wx hr0 hr1 (by omega) (by omega))
 rw [hj] at Hpk
 clear hpi hj
 obtain ⟨y, hy⟩ : ∃ y, ps[j]? = some y := ⟨ps[j], List.getElem?_eq_getElem hjl⟩
 have hym : y ∈ ps := List.mem_of_getElem? hy
 have HY := hI (H0.u.prs y hym)
 have hyn := H0.u.few y hym
 obtain ⟨gb, _, e1, hgb, hgb'⟩ := oSome H0.u.books (by omega)
 simp only [Value.slice.injEq, true_and] at e1
 obtain ⟨rfl, rfl⟩ := e1
 have d1 := oCell H0.u.books (j := j) (u := .pointer (some ⟨y.q, 0, none⟩)) (by rw [List.getElem?_map, hy]; rfl)
 have HyI := hI hy
 have hzz : ((ps.length : Int) == 0) = false := by simpa using hz
 obtain ⟨yq, yD, ys, yn⟩ := y
 simp only at d1 hyn HY
 clear hy hym
 by_cases k10 : kd = 10
 ·subst k10
  clear k7 k8 k9
  go_enter Tryz.func22, Tryz.ntmps22
  go_upto_region 14 with fail
  try rw [hW]
  try rw [hbx]
  go_region_held3 (fun w' => w'.cell? ⟨wd, 0, none⟩ = some (.slice (some ⟨gb, 0, none⟩) ps.length cb) ∧ w'.cell? ⟨bx, 1, none⟩ = some (.int .i64 bk) ∧ w'.cell? ⟨gb, j, none⟩ = some (.pointer (some ⟨yq, 0, none⟩))) (first | go_keep | exact ⟨c0, x1, d1⟩) (first | (go_at_call 53; refine (Hpk.u _).mono ?_; rintro e w4 ⟨rfl, hw4⟩; subst hw4))
  obtain ⟨V, hV⟩ : ∃ V, W.drew = V := ⟨_, rfl⟩
  have hbv : Below W.heap.size W V := by rw [← hV]; exact below_drew W
  have HVl := hI (show W.heap.size = V.heap.size by rw [← hV]; rfl)
  try rw [hV]
  have HX1 := hI (HX.u.kept hbv)
  have H1 := hI (H0.u.kept hbv)
  have HY1 := hI (HY.u.kept hbv)
  have HOk1 : Hid (ActOk V B ⟨10, bk, a, b, ao, cap, ls, t⟩) := ⟨HOk0.u.at'.kept hbv, HOk0.u.lo, HOk0.u.few, HOk0.u.txt⟩
  have HT1 := hI (HT0.u.below hbv)
  have Hbv := hI (Hb0.u.then' hWs hbv)
  have hVs : B ≤ V.heap.size := by have := hbv.size; omega
  clear hbv hV x0 x1 x2 x3 x4 x5 c0 d1 HX H0 HOk0 HT0 HY Hpk
  have x0 := HX1.u.cell 0
  have x1 := HX1.u.cell 1
  have x2 := HX1.u.cell 2
  have x3 := HX1.u.cell 3
  have x4 := HX1.u.cell 4
  have x5 := HX1.u.cell 5
  have lx1 := HX1.u.lt
  simp only [List.getElem?_toArray, List.getElem?_cons_zero, List.getElem?_cons_succ] at x0 x1 x2 x3 x4 x5
  obtain ⟨p, c, vh, vl, va, vt, tv, d, vp, vc1, vt2, tv2, hs, hP, hhn⟩ := HY1.u
  have Hc := hI (code_any B wd yq c _ vh vl _ vc ys cs 10 bk a b ao ls.length cap t V H1.u.blk hlo H1.u.codes H1.u.ok hP.blk ⟨vp, vc1, vt2, tv2, hP.rfd⟩ hm HT1.u (by omega))
  clear hP
  go_wp2_with fail
  refine Hc.u.mono ?_
  rintro e w1 ⟨rfl, vc', u, er, hu, hb, hrow, hf, hat⟩
  have HN := hI (H1.u.coded hu hb hrow hf hat)
  have HF := hI (hf.fr.below hVs)
  clear hu hb hrow hf hat
  go_wp2_with fail
  go_ret
  exact ⟨rfl, ⟨_, _, _, _, HN.u⟩, (Hbv.u.mono hBw).trans HF.u⟩
 ·have e10 : (kd == 10) = false := by simpa using k10
  go_enter Tryz.func22, Tryz.ntmps22
  go_upto_region 14 with fail
  try rw [hW]
  try rw [hbx]
  go_region_held3 (fun w' => w'.cell? ⟨wd, 0, none⟩ = some (.slice (some ⟨gb, 0, none⟩) ps.length cb) ∧ w'.cell? ⟨bx, 1, none⟩ = some (.int .i64 bk) ∧ w'.cell? ⟨gb, j, none⟩ = some (.pointer (some ⟨yq, 0, none⟩))) (first | go_keep | exact ⟨c0, x1, d1⟩) (first | (go_at_call 53; refine (Hpk.u _).mono ?_; rintro e w4 ⟨rfl, hw4⟩; subst hw4))
  obtain ⟨V, hV⟩ : ∃ V, W.drew = V := ⟨_, rfl⟩
  have hbv : Below W.heap.size W V := by rw [← hV]; exact below_drew W
  have HVl := hI (show W.heap.size = V.heap.size by rw [← hV]; rfl)
  try rw [hV]
  have HX1 := hI (HX.u.kept hbv)
  have H1 := hI (H0.u.kept hbv)
  have HY1 := hI (HY.u.kept hbv)
  have HOk1 : Hid (ActOk V B ⟨kd, bk, a, b, ao, cap, ls, t⟩) := ⟨HOk0.u.at'.kept hbv, HOk0.u.lo, HOk0.u.few, HOk0.u.txt⟩
  have HT1 := hI (HT0.u.below hbv)
  have Hbv := hI (Hb0.u.then' hWs hbv)
  have hVs : B ≤ V.heap.size := by have := hbv.size; omega
  clear hbv hV x0 x1 x2 x3 x4 x5 c0 d1 HX H0 HOk0 HT0 HY Hpk
  have x0 := HX1.u.cell 0
  have x1 := HX1.u.cell 1
  have x2 := HX1.u.cell 2
  have x3 := HX1.u.cell 3
  have x4 := HX1.u.cell 4
  have x5 := HX1.u.cell 5
  have lx1 := HX1.u.lt
  simp only [List.getElem?_toArray, List.getElem?_cons_zero, List.getElem?_cons_succ] at x0 x1 x2 x3 x4 x5
  have Hd := hI (doD_any yD B yq ys yn ⟨kd, bk, a, b, ao, cap, ls, t⟩ V HY1.u (by omega) HOk1.u k10 HT1.u)
  go_wp2_with fail
  refine Hd.u.mono ?_
  rintro e w1 ⟨rfl, n', hn', hst⟩
  have HN := hI (H1.u.stepi (x := ⟨yq, yD, ys, yn⟩) HyI.u hst hn')
  have HF : Hid (Below B V w1) := by
   obtain ⟨_, Ts, _, _, _, _, f⟩ := hst
   exact f.fr.below hVs
  have HL := hI (looksD_any _ B yq _ _ w1 hst.1)
  clear hst
  go_wp2_with fail
  refine HL.u.mono ?_
  rintro e w2 ⟨rfl, hb2⟩
  have Hb2 := hI hb2
  clear hb2
  go_wp2_with fail
  go_ret
  exact ⟨rfl, ⟨_, _, _, _, HN.u.kept Hb2.u⟩, ((Hbv.u.mono hBw).trans HF.u).trans (Hb2.u.mono (Nat.le_trans hVs HF.u.size))⟩
end Go.Proofs.YtdchbenfccofpaaGreatDoor
