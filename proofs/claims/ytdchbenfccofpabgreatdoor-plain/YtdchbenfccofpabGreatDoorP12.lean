/- The disk is read: a sector as a record. The disk is read: all sectors as records; a record's call again. The disk as bytes: what writes make of noughts. Mount: a record's call again; a book of what a disk holds. What a book has written, mounted, is that book. Mount. A keeper's disk: empty, image. Reports: the program's sheet: how it lies; its small functions. Reports: the program's sheet: are all accounts there; a cell that was worked out. -/
import Derived.Test.YtdchbenfccofpabGreatDoorP11
import Derived.Test.YtdchbenfccofpabGreatDoorP07
import Derived.Laws.MakeOwn
import Derived.Lib.AppendStr
import Derived.Test.YtdchbenfccofpabGreatDoorP02
import Derived.Test.YtdchbenfccofpabGreatDoorP09
import Derived.Test.YtdchbenfccofpabGreatDoorP10
namespace Go.Proofs.YtdchbenfccofpabGreatDoor
open Go.RowKit Db

def rdC (l : List UInt8) : Nat := min (l.getD 1 0).toNat 4
def rdLs (l : List UInt8) : List Ln := (List.range (rdC l)).map fun i => (nmb l (14 + 12 * i), nmb l (20 + 12 * i))
theorem rdLs_len (l : List UInt8) : (rdLs l).length = rdC l := by unfold rdLs; simp
theorem rdC_le (l : List UInt8) : rdC l ≤ 4 := by unfold rdC; omega
theorem mL_getD {t : ByteArray} {k : Nat} (h : k < t.size) : (L t).getD k 0 = t[k] := by
  rw [List.getD_eq_getElem?_getD, L_get? t k h]; rfl

set_option maxRecDepth 100000 in
set_option maxHeartbeats 4000000 in
theorem mread_any (t : ByteArray) (w : World) (hs : t.size = 64) :
    Calls Tryz.prog 65 #[.string t] w fun e w' => ∃ ao cap, e = .returned (.agg #[.int .u8 (((L t).getD 0 0).toNat : Int), .int .i64 (nmb (L t) 2), .int .i64 (nmb (L t) 8), .slice ao (rdLs (L t)).length cap]) ∧ w'.ownsRow w.heap.size 84 2 (.slice ao (rdLs (L t)).length cap) (rdLs (L t)).length (cellsL (rdLs (L t))) ∧ Below w.heap.size w w' := by
  obtain ⟨ii, hi, hz0, hz1, hz2⟩ := info_parts info_line
  obtain ⟨rb, hrb⟩ : ∃ rb, w.heap.size = rb := ⟨_, rfl⟩
  obtain ⟨W, hW⟩ : ∃ W, (w.alloc (.cells #[.int .u8 0, .int .i64 0, .int .i64 0, .slice none 0 0] 101)).alloc (.cells #[.string t, .int .i64 0] 166) = W := ⟨_, rfl⟩
  have HX : Hid (Blk W rb #[.int .u8 0, .int .i64 0, .int .i64 0, .slice none 0 0] 101) := by rw [← hW, ← hrb]; exact (Blk.new _ _ _).alloc _
  have HR : Hid (Blk W (rb + 1) #[.string t, .int .i64 ((0 : Nat) : Int)] 166) := by
    have := Blk.new (w.alloc (.cells #[.int .u8 0, .int .i64 0, .int .i64 0, .slice none 0 0] 101)) #[.string t, .int .i64 0] 166
    rw [hW] at this
    simp only [World.alloc, Array.size_push, hrb] at this
    exact this
  have Hb0 : Hid (Below rb w W) := by rw [← hW, ← hrb]; exact ((Below.refl _ _).alloc (Nat.le_refl _) _).alloc (by simp) _
  have hWs : W.heap.size = rb + 2 := by rw [← hW, ← hrb]; simp
  have e0 := mL_getD (t := t) (k := 0) (by omega)
  have e1 := mL_getD (t := t) (k := 1) (by omega)
  have hc : rdC (L t) = min t[1].toNat 4 := by unfold rdC; rw [e1]
  have hc4 := rdC_le (L t)
  obtain ⟨n, hn⟩ : ∃ n, rdC (L t) = n := ⟨_, rfl⟩
  have hrl := rdLs_len (L t)
  obtain ⟨ls, hls⟩ : ∃ ls, rdLs (L t) = ls := ⟨_, rfl⟩
  have Hget : Hid (∀ j, j < n → ls[j]? = some (nmb (L t) (14 + 12 * j), nmb (L t) (20 + 12 * j))) := by
    intro j hj
    rw [← hls]; unfold rdLs
    rw [hn, List.getElem?_map, List.getElem?_range hj]; rfl
  rw [hn] at hc hc4 hrl
  rw [hls] at hrl ⊢
  rw [e0]
  obtain ⟨c0, hc0⟩ : ∃ c, t[0] = c := ⟨_, rfl⟩
  obtain ⟨c1, hc1⟩ : ∃ c, t[1] = c := ⟨_, rfl⟩
  have Hx0 := hide (fun (wx : World) (h : Blk wx (rb + 1) #[.string t, .int .i64 ((0 : Nat) : Int)] 166) => mnext_any rb (rb + 1) t 0 wx h (by omega) (by omega) (by omega))
  have Hx1 := hide (fun (wx : World) (h : Blk wx (rb + 1) #[.string t, .int .i64 ((0 + 1 : Nat) : Int)] 166) => mnext_any rb (rb + 1) t 1 wx h (by omega) (by omega) (by omega))
  rw [hc0] at Hx0 ⊢
  rw [hc1] at Hx1 hc
  obtain ⟨m1, hm1⟩ : ∃ m, c1.toNat = m := ⟨_, rfl⟩
  have hm1b : m1 ≤ 255 := by have := c1.toNat_lt; omega
  rw [hm1] at Hx1 hc
  have Hn := hide (fun (k : Nat) (hk : k + 6 ≤ 64) (wx : World) (h : Blk wx (rb + 1) #[.string t, .int .i64 (k : Int)] 166) => rnumber_any rb (rb + 1) t k wx h (by omega) (by omega) (by omega))
  have Hrl := hide hrl
  clear e0 e1 hn hls hc0 hc1 hrl hm1
  rw [hrb]
  go_enter Tryz.func65, Tryz.ntmps65
  go_wp2_with fail
  try rw [hW]
  try rw [hrb]
  refine (unhide Hx0 _ (unhide HR)).mono ?_
  rintro e w1 ⟨rfl, k1, k2⟩
  have HR1 := hide k1
  have HF1 := hide k2
  clear k1 k2
  go_wp2_with fail
  refine (unhide Hx1 _ (unhide HR1)).mono ?_
  rintro e w2 ⟨rfl, k1, k2⟩
  have HR2 := hide k1
  have HF2 := hide ((unhide HF1).trans k2)
  clear k1 k2
  go_wp2_with fail
  refine (unhide Hn 2 (by omega) _ (unhide HR2)).mono ?_
  rintro e w3 ⟨rfl, k1, k2⟩
  have HR3 := hide k1
  have HF3 := hide ((unhide HF2).trans k2)
  clear k1 k2
  go_wp2_with fail
  refine (unhide Hn 8 (by omega) _ (unhide HR3)).mono ?_
  rintro e w4 ⟨rfl, k1, k2⟩
  have HR4 := hide k1
  have HF4 : Hid (FrT rb [166, 84] W w4) := ((unhide HF3).trans k2).mono (by simp)
  clear k1 k2
  go_wp2_with fail
  go_loopg [8, 9] n (fun m vo vi wr => ∃ j : Nat, j ≤ n ∧ m = n - j ∧ vi = .int .i64 j ∧ Hid (wr.ownsRow rb 84 2 vo j (cellsL (ls.take j))) ∧ Hid (Blk wr (rb + 1) #[.string t, .int .i64 ((14 + 12 * j : Nat) : Int)] 166) ∧ Hid (FrT rb [166, 84] W wr))
  case atStart => exact ⟨0, by omega, rfl, rfl, World.ownsRow_nil _ _ _ _, unhide HR4, unhide HF4⟩
  case round =>
    obtain ⟨j, hj, rfl, rfl, Ho, HR5, HF5⟩ := hrel
    obtain ⟨wo, rfl⟩ : ∃ wo, wo = wr := ⟨_, rfl⟩
    have hszo := (unhide HF5).size
    by_cases hlt : j < n
    · have q1 : j < m1 := by omega
      have q1' : (j : Int) < (m1 : Int) := by omega
      have q2 : (j : Int) < 4 := by omega
      have hgt := unhide Hget j hlt
      have Htk : Hid (cellsL (ls.take (j + 1)) = cellsL (ls.take j) ++ [.int .i64 (nmb (L t) (14 + 12 * j)), .int .i64 (nmb (L t) (20 + 12 * j))]) := by
        show _ = _
        rw [List.take_add_one, hgt]
        exact cellsL_snoc _ _
      obtain ⟨ark, crk, rfl⟩ := ownsRow_form (unhide Ho)
      clear hgt
      go_wp2_with fail
      refine (unhide Hn (14 + 12 * j) (by omega) _ (unhide HR5)).mono ?_
      rintro e w6 ⟨rfl, k1, k2⟩
      have HR6 := hide k1
      have HF6 := hide ((unhide HF5).trans (k2.mono (by simp)))
      have Ho6 := hide (ownsRow_frT (unhide Ho) k2 (by decide))
      have hs6 := k2.size
      clear k1 k2
      go_wp2_with fail
      have Hn7 := unhide Hn (20 + 12 * j) (by omega) w6 (by rw [show 20 + 12 * j = 14 + 12 * j + 6 by omega]; exact unhide HR6)
      refine Hn7.mono ?_
      rintro e w7 ⟨rfl, k1, k2⟩
      have HR7 := hide k1
      have HF7 := hide ((unhide HF6).trans (k2.mono (by simp)))
      have Ho7 := hide (ownsRow_frT (unhide Ho6) k2 (by decide))
      have hs7 := k2.size
      clear k1 k2
      obtain ⟨A, hA⟩ : ∃ A, nmb (L t) (14 + 12 * j) = A := ⟨_, rfl⟩
      obtain ⟨M, hM⟩ : ∃ A, nmb (L t) (20 + 12 * j) = A := ⟨_, rfl⟩
      rw [hA, hM] at Htk ⊢
      clear hA hM
      go_wp2_with (first | (at_builtin; refine wpList_append_own _ rfl (.tmp 37) (.tmp 41) 42 rfl rb 84 ii (.agg #[.int .i64 0, .int .i64 0]) 2 16 Tryz.underlying42 hi hz0 hz1 hz2 rfl (by decide) (.slice ark j crk) j _ rfl ((unhide Ho7).alloc _) ⟨w7.heap.size, 0, none⟩ 1 1 [.int .i64 A, .int .i64 M] rfl rfl (new2 _ _ (by simp) _ _ _) (fun x hx => by simp at hx; rcases hx with rfl | rfl <;> rfl) (by unfold maxLen; omega) (by omega) (by simp; omega) ?_; intro vq' w8 hown8 hgr8 _; obtain ⟨gf, cf, rfl, hgf, hgf'⟩ := ownsRow_some hown8 (Nat.succ_pos _); have Hown8 := hide hown8; have Hgr8 := hide hgr8; clear hown8 hgr8))
      have hf8 : FrT rb [84] w7 w8 := ((FrT.refl _ _ w7).alloc _).grown (unhide Hgr8) (T := 84) (by simp) (fun k hk => ⟨(ownsRow_tg (unhide Ho7) k hk).1, tg_alloc (ownsRow_tg (unhide Ho7) k hk).2 _⟩)
      have HR8 : Hid (Blk w8 (rb + 1) #[.string t, .int .i64 ((14 + 12 * (j + 1) : Nat) : Int)] 166) := by
        have := (unhide HR7).frT hf8 (by decide)
        rw [show 20 + 12 * j + 6 = 14 + 12 * (j + 1) by omega] at this
        exact this
      have HF8 := hide ((unhide HF7).trans (hf8.mono (by simp)))
      clear hf8
      go_roundg (n - (j + 1))
      case measure => omega
      case rel =>
        refine ⟨j + 1, by omega, rfl, by go_num, ?_, HR8, HF8⟩
        show World.ownsRow _ _ _ _ _ _ _
        rw [unhide Htk]
        exact unhide Hown8
    · obtain rfl : j = n := by omega
      have HXo := hide ((unhide HX).frT (unhide HF5) (by decide))
      have x0 := (unhide HXo).cell 0
      have x1 := (unhide HXo).cell 1
      have x2 := (unhide HXo).cell 2
      have x3 := (unhide HXo).cell 3
      have z0 := (unhide HXo).frozen 0
      have z1 := (unhide HXo).frozen 1
      have z2 := (unhide HXo).frozen 2
      have z3 := (unhide HXo).frozen 3
      have lx := (unhide HXo).lt
      simp only [List.getElem?_toArray, List.getElem?_cons_zero, List.getElem?_cons_succ] at x0 x1 x2 x3
      obtain ⟨ark, crk, rfl⟩ := ownsRow_form (unhide Ho)
      obtain ⟨A, hA⟩ : ∃ A, nmb (L t) 2 = A := ⟨_, rfl⟩
      obtain ⟨M, hM⟩ : ∃ A, nmb (L t) 8 = A := ⟨_, rfl⟩
      rw [hA, hM]
      have HA := hide hA
      have HM := hide hM
      have hlj := unhide Hrl
      have Hown : Hid (wo.ownsRow rb 84 2 (.slice ark ls.length crk) ls.length (cellsL ls)) := by
        have := unhide Ho
        rw [List.take_of_length_le (by omega)] at this
        rw [hlj]
        exact this
      have Hfin : Hid (∀ v0 v1 v2 v3 : Value, ((((wo.setCell ⟨rb, 0, none⟩ v0).setCell ⟨rb, 1, none⟩ v1).setCell ⟨rb, 2, none⟩ v2).setCell ⟨rb, 3, none⟩ v3).ownsRow rb 84 2 (.slice ark ls.length crk) ls.length (cellsL ls) ∧ Below rb w ((((wo.setCell ⟨rb, 0, none⟩ v0).setCell ⟨rb, 1, none⟩ v1).setCell ⟨rb, 2, none⟩ v2).setCell ⟨rb, 3, none⟩ v3)) := by
        intro v0 v1 v2 v3
        have b0 := (unhide HXo)
        have f0 := (FrT.refl rb [101] wo).setCell (p := ⟨rb, 0, none⟩) (T := 101) (by simp) b0.tg (Nat.le_refl _) v0
        have b1 := b0.set 0 v0
        have f1 := f0.setCell (p := ⟨rb, 1, none⟩) (T := 101) (by simp) b1.tg (Nat.le_refl _) v1
        have b2 := b1.set 1 v1
        have f2 := f1.setCell (p := ⟨rb, 2, none⟩) (T := 101) (by simp) b2.tg (Nat.le_refl _) v2
        have b3 := b2.set 2 v2
        have f3 := f2.setCell (p := ⟨rb, 3, none⟩) (T := 101) (by simp) b3.tg (Nat.le_refl _) v3
        refine ⟨ownsRow_frT (unhide Hown) f3 (by decide), (unhide Hb0).trans (((unhide HF5).below (by omega)).trans (f3.below (by omega)))⟩
      clear hA hM Hn Hx0 Hx1
      clear hlj
      have hj4 : j < m1 → 4 ≤ j := fun h => by omega
      clear hc
      by_cases q1 : j < m1
      · have q1' : (j : Int) < (m1 : Int) := by omega
        have q2 : ¬ ((j : Int) < 4) := by have := hj4 q1; omega
        clear hj4
        go_wp2_with fail
        refine bodyPost_ret (v := .agg #[.int .u8 (c0.toNat : Int), .int .i64 A, .int .i64 M, .slice ark j crk]) (by simp [results, Tryz.results65, go_sem, x0, x1, x2, x3]) rfl ⟨ark, crk, by rw [unhide Hrl, unhide HA, unhide HM], (unhide Hfin _ _ _ _).1, (unhide Hfin _ _ _ _).2⟩
      · have q1' : ¬ (j : Int) < (m1 : Int) := by omega
        clear hj4
        go_wp2_with fail
        refine bodyPost_ret (v := .agg #[.int .u8 (c0.toNat : Int), .int .i64 A, .int .i64 M, .slice ark j crk]) (by simp [results, Tryz.results65, go_sem, x0, x1, x2, x3]) rfl ⟨ark, crk, by rw [unhide Hrl, unhide HA, unhide HM], (unhide Hfin _ _ _ _).1, (unhide Hfin _ _ _ _).2⟩

end Go.Proofs.YtdchbenfccofpabGreatDoor
namespace Go.Proofs.YtdchbenfccofpabGreatDoor
open Go.RowKit Db

/-- To halt a walk at a place. -/
def StopM (p : Prop) : Prop := p
theorem stopM {p : Prop} (h : StopM p) : p := h
/-- A record as it was read: its kind, its numbers, its lines; where the lines lie. -/
abbrev Rc := Int × Int × Int × List Ln
def cellsR (l : List (Rc × Value)) : List Value := l.flatMap fun a => [.int .u8 a.1.1, .int .i64 a.1.2.1, .int .i64 a.1.2.2.1, a.2]
theorem cellsR_snoc (l : List (Rc × Value)) (a : Rc × Value) : cellsR (l ++ [a]) = cellsR l ++ [.int .u8 a.1.1, .int .i64 a.1.2.1, .int .i64 a.1.2.2.1, a.2] := by simp [cellsR]
theorem four_get {α : Type} (f g h e : α → Value) (l : List α) : ∀ (k : Nat) (a : α), l[k]? = some a → (l.flatMap fun x => [f x, g x, h x, e x])[k * 4]? = some (f a) ∧ (l.flatMap fun x => [f x, g x, h x, e x])[k * 4 + 1]? = some (g a) ∧ (l.flatMap fun x => [f x, g x, h x, e x])[k * 4 + 2]? = some (h a) ∧ (l.flatMap fun x => [f x, g x, h x, e x])[k * 4 + 3]? = some (e a) := by
  induction l with
  | nil => intro k a h; simp at h
  | cons x t ih =>
    intro k a hk
    cases k with
    | zero => simp at hk; subst hk; simp
    | succ k =>
      simp only [List.getElem?_cons_succ] at hk
      have := ih k a hk
      simp only [List.flatMap_cons, List.cons_append, List.nil_append]
      rw [show (k + 1) * 4 = k * 4 + 1 + 1 + 1 + 1 by omega, show k * 4 + 1 + 1 + 1 + 1 + 1 = (k * 4 + 1) + 1 + 1 + 1 + 1 by omega, show k * 4 + 1 + 1 + 1 + 1 + 2 = (k * 4 + 2) + 1 + 1 + 1 + 1 by omega, show k * 4 + 1 + 1 + 1 + 1 + 3 = (k * 4 + 3) + 1 + 1 + 1 + 1 by omega]
      simpa using this
structure RcsAt (w : World) (B : Nat) (v : Value) (rv : List (Rc × Value)) : Prop where
  own : w.ownsRow B 101 4 v rv.length (cellsR rv)
  lns : ∀ x ∈ rv, w.ownsRow B 84 2 x.2 x.1.2.2.2.length (cellsL x.1.2.2.2)
theorem RcsAt.frT {w w' : World} {B B' : Nat} {v : Value} {rv : List (Rc × Value)} {Ts : List TypeId} (h : RcsAt w B v rv) (hf : FrT B' Ts w w') (h1 : 101 ∉ Ts) (h2 : 84 ∉ Ts) : RcsAt w' B v rv :=
  ⟨ownsRow_frT h.own hf h1, fun x hx => ownsRow_frT (h.lns x hx) hf h2⟩
/-- The i-th sector of an image as a record. -/
def rdR (l : List UInt8) : Rc := (((l.getD 0 0).toNat : Int), nmb l 2, nmb l 8, rdLs l)
def secOf (img : List UInt8) (i : Nat) : List UInt8 := (img.drop (64 * i)).take 64
def rcs (img : List UInt8) : List Rc := (List.range 128).map fun i => rdR (secOf img i)
theorem info_rec : (Tryz.prog.info? 101).map (fun i => (i.zero, i.size, i.bytes)) = some (some (.agg #[.int .u8 0, .int .i64 0, .int .i64 0, .slice none 0 0]), 4, 48) := by kernel_rfl
theorem new4 (w : World) (n : Nat) (hn : n = w.heap.size) (x y z u : Value) (t : TypeId) : ∀ j e, [x, y, z, u][j]? = some e → (w.alloc (.cells #[x, y, z, u] t)).cell? ((⟨n, 0, none⟩ : Addr).add j) = some e := by
  subst hn; intro j e h; rw [Addr.add_lit]; have := (Blk.new w #[x, y, z, u] t).cell j; simp only [Nat.zero_add]; rw [this]; simpa using h

set_option maxRecDepth 100000 in
set_option maxHeartbeats 4000000 in
theorem records_any (t : ByteArray) (w : World) (hs : t.size = 8192) :
    Calls Tryz.prog 41 #[.string t] w fun e w' => ∃ v rv, e = .returned v ∧ RcsAt w' w.heap.size v rv ∧ rv.map (·.1) = rcs (L t) ∧ Below w.heap.size w w' := by
  obtain ⟨ii, hi, hz0, hz1, hz2⟩ := info_parts info_rec
  obtain ⟨B, hB⟩ : ∃ B, w.heap.size = B := ⟨_, rfl⟩
  rw [hB]
  go_enter Tryz.func41, Tryz.ntmps41
  go_wp2_with fail
  go_loopg [3, 4] 128 (fun m vo vi wr => ∃ (j : Nat) (rv : List (Rc × Value)), j ≤ 128 ∧ m = 128 - j ∧ vi = .int .i64 ((64 + 64 * j : Nat) : Int) ∧ rv.length = j ∧ Hid (RcsAt wr B vo rv) ∧ Hid (rv.map (·.1) = (List.range j).map fun i => rdR (secOf (L t) i)) ∧ Hid (Below B w wr))
  case atStart => exact ⟨0, [], by omega, rfl, rfl, rfl, ⟨World.ownsRow_nil _ _ _ _, by simp⟩, rfl, by rw [← hB]; exact Below.refl _ _⟩
  case round =>
    obtain ⟨j, rv, hj, rfl, rfl, hrl, Hr, Hm, Hb⟩ := hrel
    obtain ⟨wo, rfl⟩ : ∃ wo, wo = wr := ⟨_, rfl⟩
    have hszo := (unhide Hb).size
    rw [hB] at hszo
    by_cases hlt : j < 128
    · obtain ⟨sx, hsx⟩ : ∃ sx, t.extract (64 * j) (64 + 64 * j) = sx := ⟨_, rfl⟩
      have hsz : sx.size = 64 := by rw [← hsx, ByteArray.size_extract]; omega
      have hLs : L sx = secOf (L t) j := by rw [← hsx, L_extract]; unfold secOf; rw [show 64 + 64 * j - 64 * j = 64 by omega]
      have Hread := hide (mread_any sx wo hsz)
      rw [hLs] at Hread
      obtain ⟨ark, crk, rfl⟩ := ownsRow_form (unhide Hr).own
      obtain ⟨K, hK⟩ : ∃ K : Int, (((secOf (L t) j).getD 0 0).toNat : Int) = K := ⟨_, rfl⟩
      obtain ⟨A, hA⟩ : ∃ K : Int, nmb (secOf (L t) j) 2 = K := ⟨_, rfl⟩
      obtain ⟨D, hD⟩ : ∃ K : Int, nmb (secOf (L t) j) 8 = K := ⟨_, rfl⟩
      obtain ⟨ls, hls⟩ : ∃ K : List Ln, rdLs (secOf (L t) j) = K := ⟨_, rfl⟩
      have Hrd : Hid (rdR (secOf (L t) j) = (K, A, D, ls)) := by show _ = _; unfold rdR; rw [hK, hA, hD, hls]
      rw [hK, hA, hD, hls] at Hread
      have q1 : (((64 + 64 * j : Nat) : Int) - 64) = ((64 * j : Nat) : Int) := by omega
      have q2 : ((64 + 64 * j : Nat) : Int) ≤ 8192 := by omega
      have q3 : wrap64 (((64 + 64 * j : Nat) : Int) - 64) = ((64 * j : Nat) : Int) := by rw [q1]; exact wrap_in (by omega)
      clear hK hA hD hls hLs
      go_wp2_with fail
      try rw [hsx]
      refine (unhide Hread).mono ?_
      rintro e w2 ⟨ao2, cap2, rfl, k1, k2⟩
      have Hl2 := hide (ownsRow_base k1 (base' := B) (fun k hk => by have := (ownsRow_tg k1 k hk).1; omega))
      have Hr2 := hide ((unhide Hr).frT (FrT.of_below (B := 0) (Ts := []) k2) (by simp) (by simp))
      have hsz2 := k2.size
      have Hb2 := hide ((unhide Hb).trans (k2.mono hszo))
      obtain ⟨W, hW⟩ : ∃ W, w2.alloc (.cells #[.int .u8 K, .int .i64 A, .int .i64 D, .slice ao2 ls.length cap2] 101) = W := ⟨_, rfl⟩
      have HX : Hid (Blk W w2.heap.size #[.int .u8 K, .int .i64 A, .int .i64 D, .slice ao2 ls.length cap2] 101) := by rw [← hW]; exact Blk.new _ _ _
      have hbW : Below w2.heap.size w2 W := by rw [← hW]; exact (Below.refl _ _).alloc (Nat.le_refl _) _
      have hWs : W.heap.size = w2.heap.size + 1 := by rw [← hW]; simp
      have HrW := hide ((unhide Hr2).frT (FrT.of_below (B := 0) (Ts := []) hbW) (by simp) (by simp))
      have HlW := hide (ownsRow_below (unhide Hl2) hbW)
      have HbW := hide ((unhide Hb2).trans (hbW.mono (by omega)))
      have x0 := (unhide HX).cell 0
      have x1 := (unhide HX).cell 1
      have x2 := (unhide HX).cell 2
      have x3 := (unhide HX).cell 3
      simp only [List.getElem?_toArray, List.getElem?_cons_zero, List.getElem?_cons_succ] at x0 x1 x2 x3
      clear k1 k2 hbW Hread
      go_wp2_with (first | (at_builtin; refine stopM ?_))
      try rw [hW]
      show wpList _ _ _ _ _ _
      have howW := (unhide HrW).own
      rw [hrl] at howW
      refine wpList_append_own _ rfl (.tmp 18) (.tmp 20) 97 rfl B 101 ii (.agg #[.int .u8 0, .int .i64 0, .int .i64 0, .slice none 0 0]) 4 48 Tryz.underlying97 hi hz0 hz1 hz2 rfl (by decide) (.slice ark j crk) j _ rfl (howW.alloc _) ⟨w2.heap.size + 1, 0, none⟩ 1 1 [.int .u8 K, .int .i64 A, .int .i64 D, .slice ao2 ls.length cap2] rfl rfl (new4 _ _ (by rw [hWs]) _ _ _ _ _) (fun x hx => by simp at hx; rcases hx with rfl | rfl | rfl | rfl <;> rfl) (by unfold maxLen; omega) (by omega) (by simp; omega) ?_
      intro v5 w5 hown5 hgr5 _
      have hf5 : FrT B [101] W w5 := ((FrT.refl _ _ W).alloc _).grown hgr5 (T := 101) (by simp) (fun k hk => ⟨(ownsRow_tg howW k hk).1, tg_alloc (ownsRow_tg howW k hk).2 _⟩)
      obtain ⟨gf, cf, rfl, hgf, hgf'⟩ := ownsRow_some hown5 (Nat.succ_pos _)
      have Hr5 : Hid (RcsAt w5 B (.slice (some ⟨gf, 0, none⟩) (j + 1) cf) (rv ++ [((K, A, D, ls), .slice ao2 ls.length cap2)])) := by
        refine ⟨?_, fun x hx => ?_⟩
        · rw [cellsR_snoc, List.length_append, hrl]; exact hown5
        · rcases List.mem_append.1 hx with hx | hx
          · exact ownsRow_frT ((unhide HrW).lns x hx) hf5 (by decide)
          · simp only [List.mem_singleton] at hx
            subst hx
            exact ownsRow_frT (unhide HlW) hf5 (by decide)
      have Hm5 : Hid ((rv ++ [((K, A, D, ls), Value.slice ao2 ls.length cap2)]).map (·.1) = (List.range (j + 1)).map fun i => rdR (secOf (L t) i)) := by
        show _ = _
        rw [List.map_append, unhide Hm, List.range_succ, List.map_append]
        simp only [List.map_cons, List.map_nil, unhide Hrd]
      have Hb5 := hide ((unhide HbW).trans (hf5.below (by omega)))
      clear hown5 hgr5 hf5 howW q1 q3 hW
      go_wp2_with fail
      go_roundg (128 - (j + 1))
      case measure => omega
      case rel => exact ⟨j + 1, _, by omega, rfl, by first | go_num | (congr 1; omega), by simp [hrl], Hr5, Hm5, Hb5⟩
    · obtain rfl : j = 128 := by omega
      obtain ⟨ark, crk, rfl⟩ := ownsRow_form (unhide Hr).own
      go_wp2_with fail
      go_ret
      refine ⟨_, rv, ?_, unhide Hr, unhide Hm, unhide Hb⟩
      first | rfl | (rw [hrl]; rfl)

end Go.Proofs.YtdchbenfccofpabGreatDoor
namespace Go.Proofs.YtdchbenfccofpabGreatDoor
open Go.RowKit Db

theorem run_makeU (n : Nat) (h : n ≤ 1000000) (w : World) :
    (Instr.makeSlice 64 (.int .i64 (n : Int)) (.int .i64 (n : Int))).run Tryz.prog w = .ok (.slice (some ⟨w.heap.size, 0, none⟩) n n) (w.alloc (.cells (madeCells #[.int .u8 0] n) 5)) := by
  obtain ⟨ii, hi, hz0, hz1, hz2⟩ := info_parts info_u8
  have := run_make (P := Tryz.prog) w 64 5 ii (.int .u8 0) Tryz.underlying64 hi hz0 .i64 .i64 n n (by omega) (Int.le_refl _) (by rw [hz2]; omega) (by omega)
  rw [hz1, show (Value.int .u8 0).cells = #[.int .u8 0] from rfl] at this
  simpa using this
theorem made_zeroU (m : Nat) : (madeCells #[.int .u8 0] m).toList = cellsU (List.replicate m 0) := by
  unfold cellsU
  rw [List.map_replicate]
  apply List.ext_getElem
  · rw [Array.length_toList, size_madeCells, List.length_replicate]
  · intro i h1 h2
    rw [List.getElem_replicate, Array.getElem_toList]
    simp [madeCells, Nat.mod_one]
/-- A byte at a place, where there is one; a text from a place on. -/
def put (img : List UInt8) (p : Int) (c : UInt8) : List UInt8 := if 0 ≤ p ∧ p < img.length then img.set p.toNat c else img
def paste (img : List UInt8) (p : Int) : List UInt8 → List UInt8
  | [] => img
  | c :: r => paste (put img p c) (p + 1) r
theorem put_len (img : List UInt8) (p : Int) (c : UInt8) : (put img p c).length = img.length := by unfold put; split <;> simp
theorem paste_len (d : List UInt8) : ∀ (img : List UInt8) (p : Int), (paste img p d).length = img.length := by
  induction d with
  | nil => intro img p; rfl
  | cons c r ih => intro img p; simp only [paste]; rw [ih, put_len]
def pasteW (img : List UInt8) (x : Wr) : List UInt8 := paste img (x.1 * 64) (L x.2)
def zeros : List UInt8 := List.replicate 8192 0
/-- All bytes of a disk to which this was done. -/
def imgL (ws : List Wr) : List UInt8 := ws.foldl pasteW zeros
theorem imgL_len (ws : List Wr) : (imgL ws).length = 8192 := by
  have key : ∀ (l : List Wr) (img : List UInt8), (l.foldl pasteW img).length = img.length := by
    intro l
    induction l with
    | nil => intro img; rfl
    | cons x r ih => intro img; rw [List.foldl_cons, ih]; unfold pasteW; exact paste_len _ _ _
  unfold imgL
  rw [key]
  unfold zeros
  exact List.length_replicate
theorem imgL_step {ws : List Wr} {j : Nat} {x : Wr} (h : ws[j]? = some x) : imgL (ws.take (j + 1)) = pasteW (imgL (ws.take j)) x := by
  unfold imgL
  rw [List.take_add_one, h]
  simp
theorem cellsU_set (l : List UInt8) (k : Nat) (c : UInt8) : cellsU (l.set k c) = (cellsU l).set k (.int .u8 (c.toNat : Int)) := by
  unfold cellsU; rw [List.map_set]
theorem cellsU_length (l : List UInt8) : (cellsU l).length = l.length := by unfold cellsU; simp

set_option maxRecDepth 100000 in
set_option maxHeartbeats 4000000 in
theorem image_any (B : Nat) (v : Value) (ws : List Wr) (w : World) (h : w.ownsRow B 96 2 v ws.length (cellsW ws)) (hw : ∀ x ∈ ws, -1 ≤ x.1 ∧ x.1 ≤ 1000 ∧ x.2.size ≤ 64) (hl : ws.length ≤ 1000) :
    Calls Tryz.prog 43 #[v] w fun e w' => ∃ u : ByteArray, e = .returned (.string u) ∧ L u = imgL ws ∧ Below w.heap.size w w' := by
  obtain ⟨ao, cap, rfl⟩ := ownsRow_form h
  have hmk := run_makeU 8192 (by omega) w
  obtain ⟨g, hg⟩ : ∃ g, w.heap.size = g := ⟨_, rfl⟩
  obtain ⟨W, hW⟩ : ∃ W, w.alloc (.cells (madeCells #[.int .u8 0] 8192) 5) = W := ⟨_, rfl⟩
  rw [hg, hW] at hmk
  have HW : Hid (W.ownsRow g 5 1 (.slice (some ⟨g, 0, none⟩) 8192 8192) 8192 (cellsU zeros)) := by
    have h1 := owns_new (w := W) (B := g) (g := g) (e := 5) (size := 1) (n := 8192) (cs := madeCells #[.int .u8 0] 8192) (by rw [← hW, ← hg]; exact Blk.new _ _ _) (Nat.le_refl _) (by unfold maxLen; omega) (by rw [size_madeCells])
    rw [made_zeroU] at h1
    exact h1
  have Hb0 : Hid (Below g w W) := by rw [← hW, ← hg]; exact (Below.refl _ _).alloc (Nat.le_refl _) _
  have hWs : W.heap.size = g + 1 := by rw [← hW, ← hg]; simp
  have Hws : Hid (W.ownsRow B 96 2 (.slice ao ws.length cap) ws.length (cellsW ws)) := by rw [← hg] at Hb0; exact ownsRow_below h (unhide Hb0)
  have Hlt : Hid (∀ k, (Value.slice ao ws.length cap).ownBlock = some k → k < g) := fun k hk => by rw [← hg]; obtain ⟨_, cs, fz, hx⟩ := ownsRow_tg h k hk; exact (Array.getElem?_eq_some_iff.1 hx).1
  have Hw := hide hw
  have hmk2 : (Instr.makeSlice 64 (.int .i64 8192) (.int .i64 8192)).run Tryz.prog w = .ok (.slice (some ⟨g, 0, none⟩) 8192 8192) W := hmk
  clear h hw hmk hW
  rw [hg]
  go_enter Tryz.func43, Tryz.ntmps43
  go_wp2_with fail
  go_loopg [11] ws.length (fun m vi wr => ∃ j : Nat, j ≤ ws.length ∧ m = ws.length - j ∧ vi = .int .i64 j ∧ Hid (wr.ownsRow g 5 1 (.slice (some ⟨g, 0, none⟩) 8192 8192) 8192 (cellsU (imgL (ws.take j)))) ∧ Hid (Below g w wr))
  case atStart => exact ⟨0, by omega, rfl, rfl, unhide HW, unhide Hb0⟩
  case round =>
    obtain ⟨j, hj, rfl, rfl, Ho, Hb⟩ := hrel
    obtain ⟨wo, rfl⟩ : ∃ wo, wo = wr := ⟨_, rfl⟩
    have hszo := (unhide Hb).size
    by_cases hlt : j < ws.length
    · obtain ⟨⟨sx, dx⟩, hx⟩ : ∃ x, ws[j]? = some x := ⟨ws[j], List.getElem?_eq_getElem hlt⟩
      have hxw := unhide Hw _ (List.mem_of_getElem? hx)
      have Hst := hide (imgL_step hx)
      have hx2 := two_get (fun a : Wr => Value.int .i64 a.1) (fun a => .string a.2) ws j (sx, dx) hx
      obtain ⟨gw, _, e1, hgw, hgw'⟩ := ownsRow_some (unhide Hws) (by omega)
      simp only [Value.slice.injEq, true_and] at e1
      obtain ⟨rfl, rfl⟩ := e1
      have hgl := unhide Hlt gw rfl
      have d0 : wo.cell? ⟨gw, j * 2, none⟩ = some (.int .i64 sx) := by
        have h1 := ownsRow_cell (unhide Hws) (j := j * 2) hx2.1
        have h2 := (unhide Hb).cell (p := ⟨gw, j * 2, none⟩) hgl
        have h3 := (unhide Hb0).cell (p := ⟨gw, j * 2, none⟩) hgl
        rw [h2, ← h3]; exact h1
      have d1 : wo.cell? ⟨gw, j * 2 + 1, none⟩ = some (.string dx) := by
        have h1 := ownsRow_cell (unhide Hws) (j := j * 2 + 1) hx2.2
        have h2 := (unhide Hb).cell (p := ⟨gw, j * 2 + 1, none⟩) hgl
        have h3 := (unhide Hb0).cell (p := ⟨gw, j * 2 + 1, none⟩) hgl
        rw [h2, ← h3]; exact h1
      obtain ⟨img, himg⟩ : ∃ img, imgL (ws.take j) = img := ⟨_, rfl⟩
      have himl : img.length = 8192 := by rw [← himg]; exact imgL_len _
      rw [himg] at Ho Hst
      obtain ⟨hs1, hs2, hs3⟩ := hxw
      simp only at hs1 hs2 hs3
      have jlt : (j : Int) < (ws.length : Int) := by omega
      obtain ⟨W2, hW2⟩ : ∃ W2, wo.alloc (.cells #[.int .i64 sx, .string dx] 96) = W2 := ⟨_, rfl⟩
      have HX : Hid (Blk W2 wo.heap.size #[.int .i64 sx, .string dx] 96) := by rw [← hW2]; exact Blk.new _ _ _
      have hbW2 : Below wo.heap.size wo W2 := by rw [← hW2]; exact (Below.refl _ _).alloc (Nat.le_refl _) _
      have HoW := hide (ownsRow_below (unhide Ho) hbW2)
      have hW2s : W2.heap.size = wo.heap.size + 1 := by rw [← hW2]; simp
      have hgo : g < wo.heap.size := by have := ownsRow_tg (unhide Ho) g rfl; obtain ⟨_, cs, fz, hx⟩ := this; exact (Array.getElem?_eq_some_iff.1 hx).1
      have HbW2 := hide ((unhide Hb).trans (hbW2.mono (by omega)))
      clear hx hx2 himg hbW2
      go_wp2_with fail
      try rw [hW2]
      clear hW2
      go_loopg [6] dx.size (fun m vi wr => ∃ (i : Nat) (cur : List UInt8), i ≤ dx.size ∧ m = dx.size - i ∧ vi = .int .i64 i ∧ cur.length = 8192 ∧ Hid (paste cur (sx * 64 + (i : Int)) ((L dx).drop i) = paste img (sx * 64) (L dx)) ∧ Hid (wr.ownsRow g 5 1 (.slice (some ⟨g, 0, none⟩) 8192 8192) 8192 (cellsU cur)) ∧ Hid (Blk wr wo.heap.size #[.int .i64 sx, .string dx] 96) ∧ Hid (Below g w wr))
      case atStart => exact ⟨0, img, by omega, rfl, rfl, himl, by simp [Hid], unhide HoW, unhide HX, unhide HbW2⟩
      case round =>
        obtain ⟨i, cur, hi', rfl, rfl, hcl, Hp, Hoc, HXc, Hbc⟩ := hrel
        have x0 := (unhide HXc).cell 0
        have x1 := (unhide HXc).cell 1
        simp only [List.getElem?_toArray, List.getElem?_cons_zero, List.getElem?_cons_succ] at x0 x1
        by_cases hlti : i < dx.size
        · have hdr := L_drop dx i hlti
          obtain ⟨c, hc⟩ : ∃ c, dx[i] = c := ⟨_, rfl⟩
          rw [hc] at hdr
          have Hp2 : Hid (paste (put cur (sx * 64 + (i : Int)) c) (sx * 64 + ((i + 1 : Nat) : Int)) ((L dx).drop (i + 1)) = paste img (sx * 64) (L dx)) := by
            have := unhide Hp
            rw [hdr] at this
            simp only [paste] at this
            show _ = _
            rw [← this]
            congr 1
            omega
          obtain ⟨P, hP⟩ : ∃ P, sx * 64 + (i : Int) = P := ⟨_, rfl⟩
          have hP1 : -64 ≤ P := by omega
          have hP2 : P ≤ 70000 := by omega
          have hw1 : wrap64 (sx * 64) = sx * 64 := wrap_in (by omega)
          have hcn : dx[i].toNat = c.toNat := by rw [hc]
          rw [hP] at Hp2
          by_cases hin : 0 ≤ P ∧ P < 8192
          · obtain ⟨k, rfl⟩ : ∃ k : Nat, P = k := ⟨P.toNat, by omega⟩
            have hput : put cur (k : Int) c = cur.set k c := by unfold put; rw [if_pos ⟨by omega, by rw [hcl]; omega⟩]; simp
            rw [hput] at Hp2
            have hk : k < 8192 := by omega
            have ck := ownsRow_cell (unhide Hoc) (j := k) (u := (cellsU cur)[k]'(by rw [cellsU_length, hcl]; exact hk)) (List.getElem?_eq_getElem _)
            have zk := ownsRow_frozen (unhide Hoc) k
            have Hset : Hid (∀ v, (wr.setCell ⟨g, k, none⟩ v).ownsRow g 5 1 (.slice (some ⟨g, 0, none⟩) 8192 8192) 8192 ((cellsU cur).set k v)) := fun v => own_set (unhide Hoc) v
            have Hcs := hide (cellsU_set cur k c)
            have HXs : Hid (∀ v, Blk (wr.setCell ⟨g, k, none⟩ v) wo.heap.size #[.int .i64 sx, .string dx] 96) := fun v => (unhide HXc).setOther _ _ (by show wo.heap.size ≠ g; omega)
            have hsc := (unhide Hbc).size
            have Hbs : Hid (∀ v, Below g w (wr.setCell ⟨g, k, none⟩ v)) := fun v => (unhide Hbc).trans (((FrT.refl g [5] wr).setCell (p := ⟨g, k, none⟩) (T := 5) (by simp) (ownsRow_tg (unhide Hoc) g rfl).2 (Nat.le_refl _) v).below (by rw [hg] at hsc; omega))
            have q1 : (0 : Int) ≤ (k : Int) := by omega
            have q2 : (k : Int) < 8192 := by omega
            have hgl2 : g < wr.heap.size := by have := ownsRow_tg (unhide Hoc) g rfl; obtain ⟨_, cs, fz, hx⟩ := this; exact (Array.getElem?_eq_some_iff.1 hx).1
            clear hdr hc hput
            go_wp2_with fail
            go_roundg (dx.size - (i + 1))
            case measure => omega
            case rel =>
              refine ⟨i + 1, cur.set k c, by omega, rfl, by go_num, by rw [List.length_set]; exact hcl, Hp2, ?_, unhide HXs _, unhide Hbs _⟩
              show World.ownsRow _ _ _ _ _ _ _
              rw [unhide Hcs]
              exact unhide Hset _
          · have hput : put cur P c = cur := by unfold put; rw [if_neg (by rw [hcl]; omega)]
            rw [hput] at Hp2
            clear hdr hc hput
            by_cases q1 : 0 ≤ P
            · have q2 : ¬ P < 8192 := by omega
              go_wp2_with fail
              go_roundg (dx.size - (i + 1))
              case measure => omega
              case rel => exact ⟨i + 1, cur, by omega, rfl, by go_num, hcl, by show _ = _; rw [show sx * 64 + ((i + 1 : Nat) : Int) = P + 1 by omega]; rw [show sx * 64 + ((i + 1 : Nat) : Int) = P + 1 by omega] at Hp2; exact unhide Hp2, unhide Hoc, unhide HXc, unhide Hbc⟩
            · go_wp2_with fail
              go_roundg (dx.size - (i + 1))
              case measure => omega
              case rel => exact ⟨i + 1, cur, by omega, rfl, by go_num, hcl, by show _ = _; rw [show sx * 64 + ((i + 1 : Nat) : Int) = P + 1 by omega]; rw [show sx * 64 + ((i + 1 : Nat) : Int) = P + 1 by omega] at Hp2; exact unhide Hp2, unhide Hoc, unhide HXc, unhide Hbc⟩
        · obtain rfl : i = dx.size := by omega
          have hcur : cur = imgL (ws.take (j + 1)) := by
            have := unhide Hp
            rw [L_drop_end dx _ (Nat.le_refl _)] at this
            simp only [paste] at this
            rw [unhide Hst]
            exact this
          have Hoj : Hid (wr.ownsRow g 5 1 (.slice (some ⟨g, 0, none⟩) 8192 8192) 8192 (cellsU (imgL (ws.take (j + 1))))) := by rw [← hcur]; exact unhide Hoc
          clear hcur
          go_wp2_with fail
          go_roundg (ws.length - (j + 1))
          case measure => omega
          case rel => exact ⟨j + 1, by omega, rfl, by go_num, unhide Hoj, unhide Hbc⟩
    · obtain rfl : j = ws.length := by omega
      have hof : wo.ownsRow g 5 1 (.slice (some ⟨g, 0, none⟩) 8192 8192) (imgL ws).length (cellsU (imgL ws)) := by
        have := unhide Ho
        rw [List.take_length] at this
        rw [imgL_len]; exact this
      have hcv := conv_bytes (imgL ws) wo g _ hof (by rw [imgL_len]; omega)
      clear hof
      go_wp2_with fail
      go_ret
      exact ⟨_, rfl, L_list _, unhide Hb⟩

end Go.Proofs.YtdchbenfccofpabGreatDoor
namespace Go.Proofs.YtdchbenfccofpabGreatDoor
open Go.RowKit Db

def redoS (t : KS) (r : Rc) : KS := kstep t ⟨r.1, r.2.1, r.2.2.1, none, 0, r.2.2.2⟩
def mntS (img : List UInt8) : KS := (rcs img).foldl redoS ⟨bk0, 0, []⟩
/-- What is said yes to, to the last byte: an image that the book which it tells of writes. -/
def ImgOk (l : List UInt8) : Prop := l.length = 8192 ∧ imgL (mntS l).ws = l
def WsOk (ws : List Wr) : Prop := ∀ x ∈ ws, -1 ≤ x.1 ∧ x.1 ≤ 1000 ∧ x.2.size ≤ 64
theorem secB_size (k : Nat) (n d : Int) (ls : List Ln) (h : ls.length ≤ 4) : (secB k n d ls).size = 64 := by
  unfold secB; rw [size_L, L_list, secL_length k n d ls h]
theorem clX_size {s : Bk} (hg : BkGood s) {kd a b : Int} {ls : List Ln} (h : clY s kd a b ls = true) : (clX kd a b ls).size = 64 := by
  unfold clX
  split
  · exact secB_size 1 a 0 [] (by simp)
  · split
    · exact secB_size 2 a 0 [] (by simp)
    · rename_i h1 h2
      refine secB_size 3 a b ls ?_
      unfold clY at h
      rw [if_neg h1, if_neg h2] at h
      split at h
      · rcases pst_cnt hg a b ls with ⟨_, _, _, _, _, _, h4, _⟩ | ⟨h0, _⟩
        · exact h4
        · rw [h0] at h; cases h
      · cases h
theorem WsOk.step {t : KS} {x : KAct} (h : WsOk t.ws) (hg : BkGood t.s) (hu : t.u ≤ 95) : WsOk (kstep t x).ws := by
  unfold kstep dkW
  simp only
  split
  · rename_i hy
    intro y hm
    rw [List.mem_append] at hm
    rcases hm with hm | hm
    · exact h y hm
    · simp only [List.mem_cons, List.not_mem_nil, or_false] at hm
      rcases hm with rfl | rfl
      · exact ⟨by simp only; omega, by simp only; omega, by rw [clX_size hg hy]; omega⟩
      · exact ⟨by simp, by simp, by show 0 ≤ 64; omega⟩
  · exact h

set_option maxRecDepth 100000 in
set_option maxHeartbeats 2000000 in
theorem redo_any (B p : Nat) (t : KS) (K A D : Int) (ao : Option Addr) (cap : Nat) (ls : List Ln) (w : World) (h : LedW w B p t.u t.ws t.s) (hl : LinesAt w (.slice ao ls.length cap) ls) (hty : ∀ k, (Value.slice ao ls.length cap).ownBlock = some k → Tg w k 84) :
    Calls Tryz.prog 42 #[.pointer (some ⟨p, 0, none⟩), .agg #[.int .u8 K, .int .i64 A, .int .i64 D, .slice ao ls.length cap]] w fun e w' => e = .returned (.tuple #[]) ∧ LedW w' B p (redoS t (K, A, D, ls)).u (redoS t (K, A, D, ls)).ws (redoS t (K, A, D, ls)).s ∧ FrT B tP w w' := by
  obtain ⟨bx, hbx⟩ : ∃ bx, w.heap.size = bx := ⟨_, rfl⟩
  obtain ⟨W, hW⟩ : ∃ W, w.alloc (.cells #[.int .u8 K, .int .i64 A, .int .i64 D, .slice ao ls.length cap] 101) = W := ⟨_, rfl⟩
  have HX : Hid (Blk W bx #[.int .u8 K, .int .i64 A, .int .i64 D, .slice ao ls.length cap] 101) := by rw [← hW, ← hbx]; exact Blk.new _ _ _
  have Hb0 : Hid (Below w.heap.size w W) := by rw [← hW]; exact (Below.refl _ _).alloc (Nat.le_refl _) _
  have H0 := hide (h.kept (unhide Hb0))
  have Hl0 := hide (hl.kept (unhide Hb0))
  have Hty : Hid (∀ k, (Value.slice ao ls.length cap).ownBlock = some k → Tg W k 84) := fun k hk => by
    obtain ⟨cs, fz, hg⟩ := hty k hk
    exact ⟨cs, fz, by rw [(unhide Hb0).block k (Array.getElem?_eq_some_iff.1 hg).1]; exact hg⟩
  obtain ⟨s, u, ws⟩ := t
  simp only at H0
  have x0 := (unhide HX).cell 0
  have x1 := (unhide HX).cell 1
  have x2 := (unhide HX).cell 2
  have x3 := (unhide HX).cell 3
  simp only [List.getElem?_toArray, List.getElem?_cons_zero, List.getElem?_cons_succ] at x0 x1 x2 x3
  obtain ⟨⟨s', u', ws'⟩, hr⟩ : ∃ r, redoS ⟨s, u, ws⟩ (K, A, D, ls) = r := ⟨_, rfl⟩
  rw [hr]
  simp only
  clear h hl hty
  by_cases h1 : K = 1
  · subst h1
    have Hop := hide (dayOpenW_any B p u ws s A W (unhide H0))
    have e1 : redoS ⟨s, u, ws⟩ (1, A, D, ls) = ⟨(opn s A).2.2, dkU (decide ((opn s A).2.1 = 0)) u, dkW (decide ((opn s A).2.1 = 0)) u (secB 1 A 0 []) ws⟩ := rfl
    rw [e1, KS.mk.injEq] at hr
    rw [hr.1, hr.2.1, hr.2.2] at Hop
    clear hr e1
    obtain ⟨y1, hy1⟩ : ∃ y, (opn s A).1 = y := ⟨_, rfl⟩
    obtain ⟨y2, hy2⟩ : ∃ y, (opn s A).2.1 = y := ⟨_, rfl⟩
    rw [hy1, hy2] at Hop
    clear hy1 hy2
    go_enter Tryz.func42, Tryz.ntmps42
    go_wp2_with fail
    try rw [hW]
    refine (unhide Hop).mono ?_
    rintro e w1 ⟨rfl, k1, k2⟩
    have HF : Hid (LedW w1 B p u' ws' s' ∧ FrT B tP w w1) := ⟨k1, (FrT.of_below (unhide Hb0)).trans k2⟩
    clear k1 k2
    go_wp2_with fail
    go_end0
    exact ⟨rfl, unhide HF⟩
  by_cases h2 : K = 2
  · subst h2
    have Hop := hide (dayCloseW_any B p u ws s A W (unhide H0))
    have e1 : redoS ⟨s, u, ws⟩ (2, A, D, ls) = ⟨(cls s A).2, dkU (decide ((cls s A).1 = 0)) u, dkW (decide ((cls s A).1 = 0)) u (secB 2 A 0 []) ws⟩ := rfl
    rw [e1, KS.mk.injEq] at hr
    rw [hr.1, hr.2.1, hr.2.2] at Hop
    clear hr e1 h1
    obtain ⟨y1, hy1⟩ : ∃ y, (cls s A).1 = y := ⟨_, rfl⟩
    rw [hy1] at Hop
    clear hy1
    go_enter Tryz.func42, Tryz.ntmps42
    go_wp2_with fail
    try rw [hW]
    refine (unhide Hop).mono ?_
    rintro e w1 ⟨rfl, k1, k2⟩
    have HF : Hid (LedW w1 B p u' ws' s' ∧ FrT B tP w w1) := ⟨k1, (FrT.of_below (unhide Hb0)).trans k2⟩
    clear k1 k2
    go_wp2_with fail
    go_end0
    exact ⟨rfl, unhide HF⟩
  by_cases h3 : K = 3
  · subst h3
    have Hop := hide (dayPostW_any B p u ws s A D (.slice ao ls.length cap) ls W (unhide H0) (unhide Hl0) (unhide Hty))
    have e1 : redoS ⟨s, u, ws⟩ (3, A, D, ls) = ⟨(pst s A D ls).2, dkU (isN s A D ls) u, dkW (isN s A D ls) u (secB 3 A D ls) ws⟩ := rfl
    rw [e1, KS.mk.injEq] at hr
    rw [hr.1, hr.2.1, hr.2.2] at Hop
    clear hr e1 h1 h2
    obtain ⟨y1, hy1⟩ : ∃ y, (pst s A D ls).1 = y := ⟨_, rfl⟩
    rw [hy1] at Hop
    clear hy1
    go_enter Tryz.func42, Tryz.ntmps42
    go_wp2_with fail
    try rw [hW]
    refine (unhide Hop).mono ?_
    rintro e w1 ⟨rfl, k1, k2⟩
    have HF : Hid (LedW w1 B p u' ws' s' ∧ FrT B tP w w1) := ⟨k1, (FrT.of_below (unhide Hb0)).trans k2⟩
    clear k1 k2
    go_wp2_with fail
    go_end0
    exact ⟨rfl, unhide HF⟩
  · have e1 : redoS ⟨s, u, ws⟩ (K, A, D, ls) = ⟨s, u, ws⟩ := by
      unfold redoS kstep clE clY
      simp only [if_neg h1, if_neg h2, if_neg h3]
      rfl
    rw [e1, KS.mk.injEq] at hr
    obtain ⟨rfl, rfl, rfl⟩ := hr
    have n1 : (K == 1) = false := by simpa using h1
    have n2 : (K == 2) = false := by simpa using h2
    have n3 : (K == 3) = false := by simpa using h3
    clear e1 h1 h2 h3
    go_enter Tryz.func42, Tryz.ntmps42
    go_wp2_with fail
    go_end0
    try rw [hW]
    exact ⟨rfl, unhide H0, FrT.of_below (unhide Hb0)⟩

end Go.Proofs.YtdchbenfccofpabGreatDoor
namespace Go.Proofs.YtdchbenfccofpabGreatDoor
open Go.RowKit Db

theorem le_drop_nB (n : Int) (h : AmtOk n) (l r : List UInt8) (k : Nat) (hk : l.length = k) : nmb (l ++ nB n ++ r) k = n := by
  unfold nmb
  rw [List.append_assoc, List.drop_append_of_le_length (by omega), List.drop_of_length_le (by omega), List.nil_append, List.take_append_of_le_length (by rw [nB_length]; omega), List.take_of_length_le (by rw [nB_length]; omega), nB_le n h.1 h.2]
  omega
theorem lnB_at {ls : List Ln} {j : Nat} {l : Ln} (h : ls[j]? = some l) : ∃ A R, lnB ls = A ++ nB l.1 ++ nB l.2 ++ R ∧ A.length = 12 * j := by
  have hj : j < ls.length := (List.getElem?_eq_some_iff.1 h).1
  refine ⟨lnB (ls.take j), lnB (ls.drop (j + 1)), ?_, ?_⟩
  · have h1 : ls = ls.take (j + 1) ++ ls.drop (j + 1) := (List.take_append_drop _ _).symm
    have h2 : lnB ls = lnB (ls.take (j + 1)) ++ lnB (ls.drop (j + 1)) := by
      conv => lhs; rw [h1]
      unfold lnB; rw [List.flatMap_append]
    rw [h2, lnB_take h]
  · rw [lnB_length, List.length_take]; omega
/-- A record that was laid reads as it was. -/
theorem rdR_sec {k : Nat} {n d : Int} {ls : List Ln} (hk : k < 256) (hn : AmtOk n) (hd : AmtOk d) (h4 : ls.length ≤ 4) (hls : ∀ l ∈ ls, AmtOk l.1 ∧ AmtOk l.2) : rdR (secL k n d ls) = ((k : Int), n, d, ls) := by
  obtain ⟨z, hz⟩ : ∃ z, secL k n d ls = secP k n d ls ++ z := ⟨_, rfl⟩
  have e0 : secL k n d ls = UInt8.ofNat k :: UInt8.ofNat ls.length :: (nB n ++ nB d ++ lnB ls ++ z) := by
    rw [hz]; unfold secP secH; simp
  have c0 : ((secL k n d ls).getD 0 0).toNat = k := by rw [e0]; simp; omega
  have c1 : rdC (secL k n d ls) = ls.length := by
    unfold rdC
    rw [e0]
    simp
    omega
  have m0 : nmb (secL k n d ls) 2 = n := by
    have e : secL k n d ls = [UInt8.ofNat k, UInt8.ofNat ls.length] ++ nB n ++ (nB d ++ lnB ls ++ z) := by rw [e0]; simp
    rw [e]; exact le_drop_nB n hn _ _ 2 rfl
  have m1 : nmb (secL k n d ls) 8 = d := by
    have e : secL k n d ls = ([UInt8.ofNat k, UInt8.ofNat ls.length] ++ nB n) ++ nB d ++ (lnB ls ++ z) := by rw [e0]; simp
    rw [e]; exact le_drop_nB d hd _ _ 8 (by simp [nB_length])
  have m2 : rdLs (secL k n d ls) = ls := by
    refine List.ext_getElem? fun j => ?_
    unfold rdLs
    rw [c1, List.getElem?_map]
    by_cases hj : j < ls.length
    · obtain ⟨l, hl⟩ : ∃ l, ls[j]? = some l := ⟨ls[j], List.getElem?_eq_getElem hj⟩
      have ho := hls l (List.mem_of_getElem? hl)
      obtain ⟨A, R, hA, hAl⟩ := lnB_at hl
      have p0 : nmb (secL k n d ls) (14 + 12 * j) = l.1 := by
        have e : secL k n d ls = ([UInt8.ofNat k, UInt8.ofNat ls.length] ++ nB n ++ nB d ++ A) ++ nB l.1 ++ (nB l.2 ++ R ++ z) := by rw [e0, hA]; simp
        rw [e]; exact le_drop_nB l.1 ho.1 _ _ _ (by simp [nB_length, hAl]; omega)
      have p1 : nmb (secL k n d ls) (20 + 12 * j) = l.2 := by
        have e : secL k n d ls = ([UInt8.ofNat k, UInt8.ofNat ls.length] ++ nB n ++ nB d ++ A ++ nB l.1) ++ nB l.2 ++ (R ++ z) := by rw [e0, hA]; simp
        rw [e]; exact le_drop_nB l.2 ho.2 _ _ _ (by simp [nB_length, hAl]; omega)
      rw [List.getElem?_range hj, hl]
      simp only [Option.map_some, p0, p1]
    · rw [List.getElem?_eq_none (by simpa using hj), List.getElem?_eq_none (by omega)]; rfl
  unfold rdR
  rw [c0, m0, m1, m2]
theorem rdR_zero : (rdR (List.replicate 64 0)).1 = 0 := by
  unfold rdR
  simp
theorem redo_zero (t : KS) (r : Rc) (h : r.1 = 0) : redoS t r = t := by
  unfold redoS kstep clE clY
  rw [h]
  simp [dkU, dkW]
/-- Records that were said yes to, one behind the other. -/
def RcOk (r : Rc) : Prop := (r.1 = 1 ∨ r.1 = 2 ∨ r.1 = 3) ∧ AmtOk r.2.1 ∧ AmtOk r.2.2.1 ∧ r.2.2.2.length ≤ 4 ∧ ∀ l ∈ r.2.2.2, AmtOk l.1 ∧ AmtOk l.2
def secR (r : Rc) : List UInt8 := secL r.1.toNat r.2.1 r.2.2.1 r.2.2.2
theorem secR_len {r : Rc} (h : RcOk r) : (secR r).length = 64 := secL_length _ _ _ _ h.2.2.2.1
theorem rdR_secR {r : Rc} (h : RcOk r) : rdR (secR r) = r := by
  obtain ⟨k, n, d, ls⟩ := r
  unfold secR
  have hk : k.toNat < 256 ∧ ((k.toNat : Nat) : Int) = k := by
    have := h.1
    simp only at this
    omega
  rw [rdR_sec hk.1 h.2.1 h.2.2.1 h.2.2.2.1 h.2.2.2.2]
  simp only
  rw [hk.2]
/-- A log: how the book stands behind it, how the disk looks. -/
inductive Log : List Rc → KS → Prop where
  | nil : Log [] ⟨bk0, 0, []⟩
  | more {rs : List Rc} {t : KS} {r : Rc} : Log rs t → RcOk r → clY t.s r.1 r.2.1 r.2.2.1 r.2.2.2 = true → clX r.1 r.2.1 r.2.2.1 r.2.2.2 = ⟨(secR r).toArray⟩ → Log (rs ++ [r]) (redoS t r)
def wsOf (k : Nat) (r : Rc) : List Wr := [((k : Int), ⟨(secR r).toArray⟩), (-1, ⟨#[]⟩)]
theorem Log.facts {rs : List Rc} {t : KS} (h : Log rs t) : t.u = rs.length ∧ t = rs.foldl redoS ⟨bk0, 0, []⟩ ∧ (∀ r ∈ rs, RcOk r) ∧ BkGood t.s := by
  induction h with
  | nil => exact ⟨rfl, rfl, by simp, good0⟩
  | @more rs t r _ hr hy hx ih =>
    obtain ⟨h1, h2, h3, h4⟩ := ih
    refine ⟨?_, ?_, ?_, ?_⟩
    · unfold redoS kstep
      simp only
      rw [hy]
      simp [dkU, h1]
    · rw [List.foldl_append, ← h2]; rfl
    · intro x hx'
      rcases List.mem_append.1 hx' with hx' | hx'
      · exact h3 x hx'
      · simp only [List.mem_singleton] at hx'
        subst hx'; exact hr
    · exact clE_good h4 _ _ _ _
/-- How a disk looks: the records' sectors, then noughts. -/
def dskL (rs : List Rc) : List UInt8 := rs.flatMap secR ++ List.replicate (8192 - 64 * rs.length) 0
theorem flat_secR_len {rs : List Rc} (h : ∀ r ∈ rs, RcOk r) : (rs.flatMap secR).length = 64 * rs.length := by
  induction rs with
  | nil => rfl
  | cons r t ih =>
    rw [List.flatMap_cons, List.length_append, secR_len (h r (by simp)), ih (fun x hx => h x (by simp [hx])), List.length_cons]
    omega
theorem put_mid (A Z : List UInt8) (c x : UInt8) : put (A ++ x :: Z) (A.length : Int) c = A ++ c :: Z := by
  unfold put
  rw [if_pos ⟨by omega, by simp; omega⟩]
  simp
theorem paste_mid (d : List UInt8) : ∀ (A X Z : List UInt8), X.length = d.length → paste (A ++ X ++ Z) (A.length : Int) d = A ++ d ++ Z := by
  induction d with
  | nil => intro A X Z h; obtain rfl := List.length_eq_zero_iff.1 h; rfl
  | cons c r ih =>
    intro A X Z h
    cases X with
    | nil => simp at h
    | cons x X =>
      simp only [paste]
      rw [List.append_assoc, List.cons_append, put_mid]
      have := ih (A ++ [c]) X Z (by simpa using h)
      simp only [List.append_assoc, List.cons_append, List.nil_append, List.length_append, List.length_cons, List.length_nil] at this ⊢
      have e : ((A.length : Int) + 1) = ((A.length + (0 + 1) : Nat) : Int) := by omega
      rw [e]
      exact this
theorem dskL_more {rs : List Rc} {r : Rc} (h : ∀ x ∈ rs, RcOk x) (hr : RcOk r) (hl : rs.length < 128) : paste (dskL rs) ((rs.length : Int) * 64) (secR r) = dskL (rs ++ [r]) := by
  have h1 := flat_secR_len h
  have h2 := secR_len hr
  unfold dskL
  have e1 : List.replicate (8192 - 64 * rs.length) (0 : UInt8) = List.replicate 64 0 ++ List.replicate (8192 - 64 * (rs.length + 1)) 0 := by
    rw [List.replicate_append_replicate]; congr 1; omega
  rw [e1, ← List.append_assoc]
  have e2 : ((rs.length : Int) * 64) = ((rs.flatMap secR).length : Int) := by rw [h1]; omega
  rw [e2, paste_mid (secR r) _ _ _ (by rw [h2, List.length_replicate])]
  simp
theorem Log.img {rs : List Rc} {t : KS} (h : Log rs t) (hl : rs.length ≤ 128) : imgL t.ws = dskL rs := by
  induction h with
  | nil => rfl
  | @more rs t r hlog hr hy hx ih =>
    obtain ⟨h1, _, h3, _⟩ := hlog.facts
    rw [List.length_append, List.length_singleton] at hl
    have e : (redoS t r).ws = t.ws ++ [((t.u : Int), ⟨(secR r).toArray⟩), (-1, ⟨#[]⟩)] := by
      unfold redoS kstep
      simp only
      rw [hy, hx]
      rfl
    rw [e]
    unfold imgL at ih ⊢
    rw [List.foldl_append, ih (by omega)]
    simp only [List.foldl_cons, List.foldl_nil]
    have e2 : pasteW (dskL rs) ((t.u : Int), ⟨(secR r).toArray⟩) = dskL (rs ++ [r]) := by
      unfold pasteW
      simp only
      rw [L_list, h1]
      exact dskL_more h3 hr (by omega)
    rw [e2]
    rfl
theorem sec_dsk {rs : List Rc} (h : ∀ x ∈ rs, RcOk x) {i : Nat} (hi : i < 128) : secOf (dskL rs) i = match rs[i]? with | some r => secR r | none => List.replicate 64 0 := by
  have h1 := flat_secR_len h
  unfold secOf dskL
  cases hr : rs[i]? with
  | some r =>
    simp only
    have hir : i < rs.length := (List.getElem?_eq_some_iff.1 hr).1
    have e : rs.flatMap secR = (rs.take i).flatMap secR ++ secR r ++ (rs.drop (i + 1)).flatMap secR := by
      conv => lhs; rw [← List.take_append_drop (i + 1) rs, List.flatMap_append, List.take_add_one, hr]
      simp
    have e1 : ((rs.take i).flatMap secR).length = 64 * i := by
      rw [flat_secR_len (fun x hx => h x (List.mem_of_mem_take hx)), List.length_take]; omega
    rw [e, List.append_assoc, List.append_assoc, List.drop_append_of_le_length (by omega), List.drop_of_length_le (by omega), List.nil_append, List.take_append_of_le_length (by rw [secR_len (h r (List.mem_of_getElem? hr))]; omega), List.take_of_length_le (by rw [secR_len (h r (List.mem_of_getElem? hr))]; omega)]
  | none =>
    simp only
    have hir : rs.length ≤ i := List.getElem?_eq_none_iff.1 hr
    rw [List.drop_append, List.drop_of_length_le (by omega), List.nil_append, h1, List.drop_replicate, List.take_replicate]
    congr 1
    omega
/-- Mounted, a log's disk is the log's book. -/
theorem Log.mount {rs : List Rc} {t : KS} (h : Log rs t) (hl : rs.length ≤ 128) : mntS (dskL rs) = t ∧ ImgOk (dskL rs) := by
  obtain ⟨h1, h2, h3, _⟩ := h.facts
  have key : ∀ (l : List Rc) (T : KS), (∀ r ∈ l, r.1 = 0) → l.foldl redoS T = T := by
    intro l
    induction l with
    | nil => intro T _; rfl
    | cons r k ih => intro T hz; rw [List.foldl_cons, redo_zero T r (hz r (by simp)), ih T (fun x hx => hz x (by simp [hx]))]
  have hr : rcs (dskL rs) = rs ++ List.replicate (128 - rs.length) (rdR (List.replicate 64 0)) := by
    refine List.ext_getElem? fun i => ?_
    unfold rcs
    rw [List.getElem?_map]
    by_cases hi : i < 128
    · rw [List.getElem?_range hi]
      simp only [Option.map_some]
      rw [sec_dsk h3 hi]
      by_cases hir : i < rs.length
      · obtain ⟨r, hrr⟩ : ∃ r, rs[i]? = some r := ⟨rs[i], List.getElem?_eq_getElem hir⟩
        rw [List.getElem?_append_left hir, hrr]
        simp only
        rw [rdR_secR (h3 r (List.mem_of_getElem? hrr))]
      · rw [List.getElem?_append_right (by omega), List.getElem?_eq_none (l := rs) (by omega), List.getElem?_replicate, if_pos (by omega)]
    · rw [List.getElem?_eq_none (by simpa using hi), List.getElem?_eq_none (by simp; omega)]
      rfl
  have hm : mntS (dskL rs) = t := by
    unfold mntS
    rw [hr, List.foldl_append, ← h2]
    exact key _ t (fun r hx => by rw [List.eq_of_mem_replicate hx]; exact rdR_zero)
  refine ⟨hm, ?_, ?_⟩
  · unfold dskL
    rw [List.length_append, flat_secR_len h3, List.length_replicate]; omega
  · rw [hm]; exact h.img hl

end Go.Proofs.YtdchbenfccofpabGreatDoor
namespace Go.Proofs.YtdchbenfccofpabGreatDoor
open Go.RowKit Db

theorem LedW.facts {w : World} {B p u : Nat} {ws : List Wr} {s : Bk} (h : LedW w B p u ws s) : BkGood s ∧ u ≤ 95 ∧ ws.length ≤ 190 := by
  obtain ⟨va, vt, tv, vw, h⟩ := h
  have h1 := cnt_bound h.good
  have h2 := h.dcnt
  have h3 := h.dlen
  simp only at h2 h3
  exact ⟨h.good, by omega, by omega⟩
theorem LedW.base {w : World} {B B' p u : Nat} {ws : List Wr} {s : Bk} (h : LedW w B p u ws s) (hB : B' ≤ B) : LedW w B' p u ws s := by
  obtain ⟨va, vt, tv, vw, h⟩ := h
  have down : ∀ {e : TypeId} {size : Nat} {v : Value} {n : Nat} {xs : List Value}, w.ownsRow B e size v n xs → w.ownsRow B' e size v n xs := fun h => ownsRow_base h (fun k hk => Nat.le_trans hB (ownsRow_tg h k hk).1)
  exact ⟨va, vt, tv, vw, h.blk, Nat.le_trans hB h.lo, down h.acs, ⟨down h.txs.own, fun x hx => down (h.txs.lns x hx)⟩, h.jr, h.good, down h.dsk, h.dlen, h.dcnt⟩
theorem rcs_len (img : List UInt8) : (rcs img).length = 128 := by unfold rcs; simp
theorem fold_step {l : List Rc} {j : Nat} {x : Rc} {t : KS} (h : l[j]? = some x) : (l.take (j + 1)).foldl redoS t = redoS ((l.take j).foldl redoS t) x := by
  rw [List.take_add_one, h]; simp

set_option maxRecDepth 100000 in
set_option maxHeartbeats 4000000 in
theorem mount_any (t : ByteArray) (w : World) :
    Calls Tryz.prog 26 #[.string t] w fun e w' => ((¬ ImgOk (L t) ∧ e = .returned (.tuple #[.pointer none, .int .i64 18])) ∨ (ImgOk (L t) ∧ ∃ p, e = .returned (.tuple #[.pointer (some ⟨p, 0, none⟩), .int .i64 0]) ∧ LedW w' w.heap.size p (mntS (L t)).u [] (mntS (L t)).s)) ∧ Below w.heap.size w w' := by
  by_cases hs : t.size = 8192
  · go_enter Tryz.func26, Tryz.ntmps26
    have hne : ((t.size : Int) != 8192) = false := by simp; omega
    go_wp2_with fail
    refine (dayNew_any _).mono ?_
    rintro e w1 ⟨p, rfl, h1, hb1⟩
    have H1 := hide h1
    have Hb1 := hide hb1
    have hsz1 := hb1.size
    clear h1 hb1
    go_wp2_with fail
    refine (records_any t w1 hs).mono ?_
    rintro e w2 ⟨vr, rv, rfl, hr, hm, hb2⟩
    obtain ⟨ar, cr, rfl⟩ := ownsRow_form hr.own
    have hrl : rv.length = 128 := by have := congrArg List.length hm; rw [List.length_map, rcs_len] at this; exact this
    have Hr := hide hr
    have Hm := hide hm
    have H2 := hide ((unhide H1).kept hb2)
    have Hb2 := hide ((unhide Hb1).then hb2)
    have hsz2 := hb2.size
    clear hr hm hb2 H1
    go_wp2_with fail
    go_loopg [17] 128 (fun m vi wr => ∃ j : Nat, j ≤ 128 ∧ m = 128 - j ∧ vi = .int .i64 j ∧ Hid (LedW wr w.heap.size p (((rcs (L t)).take j).foldl redoS ⟨bk0, 0, []⟩).u (((rcs (L t)).take j).foldl redoS ⟨bk0, 0, []⟩).ws (((rcs (L t)).take j).foldl redoS ⟨bk0, 0, []⟩).s) ∧ Hid (WsOk (((rcs (L t)).take j).foldl redoS ⟨bk0, 0, []⟩).ws) ∧ Hid (RcsAt wr w1.heap.size (.slice ar rv.length cr) rv) ∧ Hid (Below w.heap.size w wr))
    case atStart => exact ⟨0, by omega, rfl, rfl, unhide H2, (fun x hx => by simp at hx), unhide Hr, unhide Hb2⟩
    case round =>
      obtain ⟨j, hj, rfl, rfl, HL, Hws, Hrr, Hb⟩ := hrel
      have hszr := (unhide Hb).size
      by_cases hlt : j < 128
      · obtain ⟨⟨⟨K, A, D, ls⟩, vl⟩, hx⟩ : ∃ x, rv[j]? = some x := ⟨rv[j]'(by omega), List.getElem?_eq_getElem _⟩
        have hxr : (rcs (L t))[j]? = some (K, A, D, ls) := by rw [← unhide Hm, List.getElem?_map, hx]; rfl
        have hst := fold_step (t := ⟨bk0, 0, []⟩) hxr
        obtain ⟨T, hT⟩ : ∃ T, ((rcs (L t)).take j).foldl redoS ⟨bk0, 0, []⟩ = T := ⟨_, rfl⟩
        rw [hT] at HL Hws hst
        have Hst := hide hst
        have hfx := (unhide HL).facts
        have h4 := four_get (fun a : Rc × Value => Value.int .u8 a.1.1) (fun a => .int .i64 a.1.2.1) (fun a => .int .i64 a.1.2.2.1) (fun a => a.2) rv j ((K, A, D, ls), vl) hx
        obtain ⟨gr, _, e1, hgr, hgr'⟩ := ownsRow_some (unhide Hrr).own (by omega)
        simp only [Value.slice.injEq, true_and] at e1
        obtain ⟨rfl, rfl⟩ := e1
        have d0 := ownsRow_cell (unhide Hrr).own (j := j * 4) h4.1
        have d1 := ownsRow_cell (unhide Hrr).own (j := j * 4 + 1) h4.2.1
        have d2 := ownsRow_cell (unhide Hrr).own (j := j * 4 + 2) h4.2.2.1
        have d3 := ownsRow_cell (unhide Hrr).own (j := j * 4 + 3) h4.2.2.2
        have hln := (unhide Hrr).lns _ (List.mem_of_getElem? hx)
        simp only at d0 d1 d2 d3 hln
        obtain ⟨al, cl, rfl⟩ := ownsRow_form hln
        have Hws2 := hide ((unhide Hws).step (x := ⟨K, A, D, none, 0, ls⟩) hfx.1 hfx.2.1)
        obtain ⟨W, hW⟩ : ∃ W, wr.alloc (.cells #[.int .u8 K, .int .i64 A, .int .i64 D, .slice al ls.length cl] 101) = W := ⟨_, rfl⟩
        have HX : Hid (Blk W wr.heap.size #[.int .u8 K, .int .i64 A, .int .i64 D, .slice al ls.length cl] 101) := by rw [← hW]; exact Blk.new _ _ _
        have hbW : Below wr.heap.size wr W := by rw [← hW]; exact (Below.refl _ _).alloc (Nat.le_refl _) _
        have x0 := (unhide HX).cell 0
        have x1 := (unhide HX).cell 1
        have x2 := (unhide HX).cell 2
        have x3 := (unhide HX).cell 3
        simp only [List.getElem?_toArray, List.getElem?_cons_zero, List.getElem?_cons_succ] at x0 x1 x2 x3
        have hlW := ownsRow_below hln hbW
        have Hre := hide (redo_any w.heap.size p T K A D al cl ls W ((unhide HL).kept hbW) (LinesAt.of_own hlW) (fun k hk => (ownsRow_tg hlW k hk).2))
        have HrW := hide ((unhide Hrr).frT (FrT.of_below (B := 0) (Ts := []) hbW) (by simp) (by simp))
        have HbW := hide ((unhide Hb).trans (hbW.mono hszr))
        have hszW := hbW.size
        have jlt : (j : Int) < (rv.length : Int) := by omega
        clear hx hxr hst h4 hln hlW hbW hfx hT
        go_wp2_with fail
        try rw [hW]
        clear hW
        refine (unhide Hre).mono ?_
        rintro e w3 ⟨rfl, k1, k2⟩
        have HF : Hid (LedW w3 w.heap.size p (((rcs (L t)).take (j + 1)).foldl redoS ⟨bk0, 0, []⟩).u (((rcs (L t)).take (j + 1)).foldl redoS ⟨bk0, 0, []⟩).ws (((rcs (L t)).take (j + 1)).foldl redoS ⟨bk0, 0, []⟩).s) := by show LedW _ _ _ _ _ _; rw [unhide Hst]; exact k1
        have HFw : Hid (WsOk (((rcs (L t)).take (j + 1)).foldl redoS ⟨bk0, 0, []⟩).ws) := by show WsOk _; rw [unhide Hst]; exact unhide Hws2
        have Hr3 := hide ((unhide HrW).frT k2 (by decide) (by decide))
        have Hb3 := hide ((unhide HbW).trans (k2.below (by omega)))
        clear k1 k2 Hre
        go_wp2_with fail
        go_roundg (128 - (j + 1))
        case measure => omega
        case rel => exact ⟨j + 1, by omega, rfl, by go_num, unhide HF, unhide HFw, unhide Hr3, unhide Hb3⟩
      · obtain rfl : j = 128 := by omega
        have hall : (rcs (L t)).take 128 = rcs (L t) := List.take_of_length_le (by rw [rcs_len]; exact Nat.le_refl _)
        rw [hall] at HL Hws
        obtain ⟨T, hT⟩ : ∃ T, mntS (L t) = T := ⟨_, rfl⟩
        have hT2 : (rcs (L t)).foldl redoS ⟨bk0, 0, []⟩ = T := hT
        rw [hT2] at HL Hws
        have HT := hide hT
        have hfx := (unhide HL).facts
        clear hall hT2 hT
        go_wp2_with fail
        refine (dayWrites_any w.heap.size p T.u T.ws T.s wr (unhide HL)).mono ?_
        rintro e w3 ⟨⟨ao3, cap3, rfl, k1⟩, k2, k3⟩
        have HL3 := hide k2
        have Hb3 := hide ((unhide Hb).trans (k3.below hszr))
        have HW3 := hide k1
        have hsz3 := (unhide Hb3).size
        clear k1 k2 k3
        go_wp2_with fail
        refine (image_any wr.heap.size _ T.ws w3 (unhide HW3) (unhide Hws) (by omega)).mono ?_
        rintro e w4 ⟨u, rfl, hu, hb4⟩
        have HL4 := hide ((unhide HL3).kept hb4)
        have Hb4 := hide ((unhide Hb3).then' hsz3 hb4)
        have hLt : (L t).length = 8192 := by rw [L_length]; exact hs
        by_cases hok : imgL T.ws = L t
        · have hI : ImgOk (L t) := ⟨hLt, by rw [unhide HT]; exact hok⟩
          have HI := hide hI
          obtain rfl : u = t := L_inj (by rw [hu, hok])
          clear hu hb4 hok hI hLt
          go_wp2_with fail
          go_ret2
          exact ⟨.inr ⟨unhide HI, p, rfl, by rw [unhide HT]; exact unhide HL4⟩, unhide Hb4⟩
        · have hI : ¬ ImgOk (L t) := fun h => hok (by have := h.2; rw [unhide HT] at this; exact this)
          have HI := hide hI
          have q1 : ¬ u = t := fun e => hok (by rw [← hu, e])
          have q2 : (u.toList == t.toList) = false := by
            rw [beq_eq_false_iff_ne, ByteArray.toList_eq, ByteArray.toList_eq]
            exact fun e => q1 (L_inj e)
          clear hu hb4 hok hI hLt
          go_wp2_with fail
          go_ret2
          exact ⟨.inl ⟨unhide HI, rfl⟩, unhide Hb4⟩
  · have hI : ¬ ImgOk (L t) := fun h => hs (by have := h.1; rw [L_length] at this; exact this)
    have HI := hide hI
    have hne : ((t.size : Int) != 8192) = true := by simp; omega
    clear hI
    go_enter Tryz.func26, Tryz.ntmps26
    go_wp2_with fail
    go_ret2
    exact ⟨.inl ⟨unhide HI, rfl⟩, Below.refl _ _⟩

end Go.Proofs.YtdchbenfccofpabGreatDoor
namespace Go.Proofs.YtdchbenfccofpabGreatDoor
open Go.RowKit Db

theorem info_str : (Tryz.prog.info? 9).map (fun i => (i.zero, i.size, i.bytes)) = some (some (.string ⟨#[]⟩), 1, 16) := by kernel_rfl
theorem info_u8' : (Tryz.prog.info? 5).map (fun i => (i.zero, i.size, i.bytes)) = some (some (.int .u8 0), 1, 1) := by kernel_rfl
theorem str_new (w : World) (n : Nat) (hn : n = w.heap.size) (x : Value) (t : TypeId) : ∀ j e, [x][j]? = some e → (w.alloc (.cells #[x] t)).cell? ((⟨n, 0, none⟩ : Addr).add j) = some e := by
  subst hn
  intro j e h
  cases j with
  | zero => simp at h; subst h; exact (Blk.new w #[x] t).cell 0
  | succ j => simp at h
/-- How a keeper's disk lies. -/
def DskAt (w : World) (B p : Nat) (ss : List ByteArray) : Prop :=
  B ≤ p ∧ ∃ v, Blk w p #[v] 94 ∧ w.ownsRow B 9 1 v ss.length (ss.map Value.string)
theorem DskAt.frT {w w' : World} {B B' p : Nat} {ss : List ByteArray} {Ts : List TypeId} (h : DskAt w B p ss) (hf : FrT B' Ts w w') (h1 : 94 ∉ Ts) (h2 : 9 ∉ Ts) : DskAt w' B p ss := by
  obtain ⟨h0, v, hb, ho⟩ := h
  exact ⟨h0, v, hb.frT hf h1, ownsRow_frT ho hf h2⟩
theorem DskAt.kept {w w' : World} {B p : Nat} {ss : List ByteArray} (h : DskAt w B p ss) (hf : Below w.heap.size w w') : DskAt w' B p ss := h.frT (FrT.of_below (B := 0) (Ts := []) hf) (by simp) (by simp)
theorem strCells_U (s : ByteArray) : Lib.strCells s = cellsU (L s) := rfl
def zB : ByteArray := ⟨(List.replicate 64 (0 : UInt8)).toArray⟩

set_option maxRecDepth 100000 in
set_option maxHeartbeats 4000000 in
theorem empty_any (w : World) :
    Calls Tryz.prog 22 #[] w fun e w' => ∃ p, e = .returned (.pointer (some ⟨p, 0, none⟩)) ∧ DskAt w' w.heap.size p (List.replicate 128 zB) ∧ Below w.heap.size w w' := by
  obtain ⟨ii, hi, hz0, hz1, hz2⟩ := info_parts info_str
  have hmk := run_makeU 64 (by omega) w
  obtain ⟨g, hg⟩ : ∃ g, w.heap.size = g := ⟨_, rfl⟩
  obtain ⟨W, hW⟩ : ∃ W, w.alloc (.cells (madeCells #[.int .u8 0] 64) 5) = W := ⟨_, rfl⟩
  rw [hg, hW] at hmk
  have HW : W.ownsRow g 5 1 (.slice (some ⟨g, 0, none⟩) 64 64) (List.replicate 64 (0 : UInt8)).length (cellsU (List.replicate 64 0)) := by
    have h1 := owns_new (w := W) (B := g) (g := g) (e := 5) (size := 1) (n := 64) (cs := madeCells #[.int .u8 0] 64) (by rw [← hW, ← hg]; exact Blk.new _ _ _) (Nat.le_refl _) (by unfold maxLen; omega) (by rw [size_madeCells])
    rw [made_zeroU] at h1
    rw [List.length_replicate]
    exact h1
  have Hb0 : Hid (Below g w W) := by rw [← hW, ← hg]; exact (Below.refl _ _).alloc (Nat.le_refl _) _
  have hWs : W.heap.size = g + 1 := by rw [← hW, ← hg]; simp
  have hcv := conv_bytes _ W g _ HW (by simp)
  have hcv2 : (convert 64 9 (.slice (some ⟨g, 0, none⟩) 64 64)).run Tryz.prog W = .ok (.string zB) W := hcv
  have hmk2 : (Instr.makeSlice 64 (.int .i64 64) (.int .i64 64)).run Tryz.prog w = .ok (.slice (some ⟨g, 0, none⟩) 64 64) W := hmk
  obtain ⟨z, hz⟩ : ∃ z, zB = z := ⟨_, rfl⟩
  rw [hz] at hcv2 ⊢
  obtain ⟨W2, hW2⟩ : ∃ W2, W.alloc (.cells #[.slice none 0 0] 94) = W2 := ⟨_, rfl⟩
  have HX : Hid (DskAt W2 g (g + 1) []) := ⟨by omega, .slice none 0 0, by rw [← hW2, ← hWs]; exact Blk.new _ _ _, World.ownsRow_nil _ _ _ _⟩
  have Hb2 : Hid (Below g w W2) := by rw [← hW2]; exact (unhide Hb0).alloc (by omega) _
  have hW2s : W2.heap.size = g + 2 := by rw [← hW2]; simp; omega
  clear HW hmk hcv hW hz
  rw [hg]
  go_enter Tryz.func22, Tryz.ntmps22
  go_wp2_with fail
  try rw [hW2]
  try rw [hWs]
  clear hW2
  go_loopg [3] 128 (fun m vi wr => ∃ j : Nat, j ≤ 128 ∧ m = 128 - j ∧ vi = .int .i64 j ∧ Hid (DskAt wr g (g + 1) (List.replicate j z)) ∧ Hid (Below g w wr))
  case atStart => exact ⟨0, by omega, rfl, rfl, unhide HX, unhide Hb2⟩
  case round =>
    obtain ⟨j, hj, rfl, rfl, HD, Hb⟩ := hrel
    have hszr := (unhide Hb).size
    by_cases hlt : j < 128
    · obtain ⟨_, v, hbk, how⟩ := unhide HD
      rw [List.length_replicate] at how
      obtain ⟨ao, cap, rfl⟩ := ownsRow_form how
      have c0 := hbk.cell 0
      have z0 := hbk.frozen 0
      have l0 := hbk.lt
      simp only [List.getElem?_toArray, List.getElem?_cons_zero] at c0
      have Hbk := hide hbk
      have How := hide how
      clear hbk how
      go_wp2_with (first | (at_builtin; refine stopM ?_))
      show wpList _ _ _ _ _ _
      refine wpList_append_own _ rfl (.tmp 16) (.tmp 18) 92 rfl g 9 ii (.string ⟨#[]⟩) 1 16 Tryz.underlying92 hi hz0 hz1 hz2 rfl (by decide) (.slice ao j cap) j _ rfl ((unhide How).alloc _) ⟨wr.heap.size, 0, none⟩ 1 1 [.string z] rfl rfl (str_new _ _ rfl _ _) (fun x hx => by simp at hx; subst hx; rfl) (by unfold maxLen; omega) (by omega) (by simp; omega) ?_
      intro v5 w5 hown5 hgr5 _
      obtain ⟨gf, cf, rfl, hgf, hgf'⟩ := ownsRow_some hown5 (Nat.succ_pos _)
      have hblk5 := ((unhide Hbk).alloc _).grown hgr5 (blk_own_ne (unhide Hbk) (unhide How) (by decide))
      have hf5 : FrT g [9, 94] wr w5 := ((FrT.refl _ _ wr).alloc _).grown hgr5 (T := 9) (by simp) (fun k hk => ⟨(ownsRow_tg (unhide How) k hk).1, tg_alloc (ownsRow_tg (unhide How) k hk).2 _⟩)
      have c5 := hblk5.cell 0
      have z5 := hblk5.frozen 0
      have l5 := hblk5.lt
      simp only [List.getElem?_toArray, List.getElem?_cons_zero] at c5
      have Hb5 := hide ((unhide Hb).trans (((hf5.setCell (p := ⟨g + 1, 0, none⟩) (T := 94) (by simp) hblk5.tg (by show g ≤ g + 1; omega) (.slice (some ⟨gf, 0, none⟩) (j + 1) cf))).below (by omega)))
      have HD5 : Hid (DskAt (w5.setCell ⟨g + 1, 0, none⟩ (.slice (some ⟨gf, 0, none⟩) (j + 1) cf)) g (g + 1) (List.replicate (j + 1) z)) := by
        refine ⟨by omega, (.slice (some ⟨gf, 0, none⟩) (j + 1) cf), ?_, ?_⟩
        · have := hblk5.set 0 (.slice (some ⟨gf, 0, none⟩) (j + 1) cf)
          simpa using this
        · have := ownsRow_frT hown5 ((FrT.refl g [94] w5).setCell (p := ⟨g + 1, 0, none⟩) (T := 94) (by simp) hblk5.tg (by show g ≤ g + 1; omega) (.slice (some ⟨gf, 0, none⟩) (j + 1) cf)) (by decide)
          rw [List.replicate_succ', List.map_append, List.length_append, List.length_replicate]
          exact this
      clear hown5 hgr5 hblk5 hf5 c0 z0
      go_wp2_with fail
      go_roundg (128 - (j + 1))
      case measure => omega
      case rel => exact ⟨j + 1, by omega, rfl, by go_num, unhide HD5, unhide Hb5⟩
    · obtain rfl : j = 128 := by omega
      go_wp2_with fail
      go_ret
      exact ⟨g + 1, rfl, unhide HD, unhide Hb⟩

theorem flat_le {ss : List ByteArray} (h : ∀ s ∈ ss, s.size ≤ 64) : (ss.flatMap L).length ≤ 64 * ss.length := by
  induction ss with
  | nil => simp
  | cons s r ih =>
    have h1 := ih (fun x hx => h x (by simp [hx]))
    have h2 := h s (by simp)
    rw [List.flatMap_cons, List.length_append, L_length, List.length_cons]
    omega

set_option maxRecDepth 100000 in
set_option maxHeartbeats 4000000 in
theorem dimage_any (B p : Nat) (ss : List ByteArray) (w : World) (h : DskAt w B p ss) (hs : ∀ s ∈ ss, s.size ≤ 64) (hl : ss.length ≤ 1000) (hp : 0 < (ss.flatMap L).length) :
    Calls Tryz.prog 27 #[.pointer (some ⟨p, 0, none⟩)] w fun e w' => ∃ u : ByteArray, e = .returned (.string u) ∧ L u = ss.flatMap L ∧ Below w.heap.size w w' := by
  obtain ⟨ii, hi, hz0, hz1, hz2⟩ := info_parts info_u8'
  obtain ⟨g, hg⟩ : ∃ g, w.heap.size = g := ⟨_, rfl⟩
  rw [hg]
  have Hs := hide hs
  have H := hide h
  clear hs h
  go_enter Tryz.func27, Tryz.ntmps27
  go_wp2_with fail
  go_loopg [3, 4] ss.length (fun m vo vi wr => ∃ j : Nat, j ≤ ss.length ∧ m = ss.length - j ∧ vi = .int .i64 j ∧ Hid (wr.ownsRow g 5 1 vo ((ss.take j).flatMap L).length (cellsU ((ss.take j).flatMap L))) ∧ Hid (Below g w wr))
  case atStart => exact ⟨0, by omega, rfl, rfl, World.ownsRow_nil _ _ _ _, by rw [← hg]; exact Below.refl _ _⟩
  case round =>
    obtain ⟨j, hj, rfl, rfl, Ho, Hb⟩ := hrel
    have hszr := (unhide Hb).size
    obtain ⟨_, v, hbk, how⟩ := (unhide H).kept (by rw [hg]; exact unhide Hb)
    obtain ⟨ao, cap, rfl⟩ := ownsRow_form how
    have c0 := hbk.cell 0
    have l0 := hbk.lt
    simp only [List.getElem?_toArray, List.getElem?_cons_zero] at c0
    have How := hide how
    clear hbk how
    by_cases hlt : j < ss.length
    · obtain ⟨s, hx⟩ : ∃ x, ss[j]? = some x := ⟨ss[j], List.getElem?_eq_getElem hlt⟩
      have hsx := unhide Hs _ (List.mem_of_getElem? hx)
      obtain ⟨gs, _, e1, hgs, hgs'⟩ := ownsRow_some (unhide How) (by omega)
      simp only [Value.slice.injEq, true_and] at e1
      obtain ⟨rfl, rfl⟩ := e1
      have d0 := ownsRow_cell (unhide How) (j := j) (u := .string s) (by rw [List.getElem?_map, hx]; rfl)
      have hst : (ss.take (j + 1)).flatMap L = (ss.take j).flatMap L ++ L s := by rw [List.take_add_one, hx]; simp
      have hle : ((ss.take j).flatMap L).length ≤ 64000 := by
        have := flat_le (ss := ss.take j) (fun x hx' => unhide Hs x (List.mem_of_mem_take hx'))
        rw [List.length_take] at this; omega
      obtain ⟨cur, hcur⟩ : ∃ c, (ss.take j).flatMap L = c := ⟨_, rfl⟩
      rw [hcur] at Ho hst hle
      obtain ⟨ac, cc, rfl⟩ := ownsRow_form (unhide Ho)
      have Hst := hide hst
      have jlt : (j : Int) < (ss.length : Int) := by omega
      clear hx hcur hst
      go_wp2_with (first | (at_builtin; refine stopM ?_))
      show wpList _ _ _ _ _ _
      refine Lib.wpList_append_own_string _ rfl (.tmp 14) (.tmp 21) 64 9 rfl g 5 ii Tryz.underlying64 Tryz.underlying9 hi hz0 hz1 hz2 (.slice ac cur.length cc) cur.length _ rfl (unhide Ho) s rfl (by unfold maxLen; omega) (by omega) (by omega) ?_
      intro v5 w5 hown5 hgr5 _
      have hf5 : FrT g [5] wr w5 := (FrT.refl _ _ wr).grown hgr5 (T := 5) (by simp) (fun k hk => ownsRow_tg (unhide Ho) k hk)
      have Hb5 := hide ((unhide Hb).trans (hf5.below (by omega)))
      have Ho5 : Hid (w5.ownsRow g 5 1 v5 ((ss.take (j + 1)).flatMap L).length (cellsU ((ss.take (j + 1)).flatMap L))) := by
        show World.ownsRow _ _ _ _ _ _ _
        rw [unhide Hst, List.length_append, L_length]
        unfold cellsU
        rw [List.map_append]
        exact hown5
      clear hown5 hgr5 hf5
      go_wp2_with fail
      go_roundg (ss.length - (j + 1))
      case measure => omega
      case rel => exact ⟨j + 1, by omega, rfl, by go_num, unhide Ho5, unhide Hb5⟩
    · obtain rfl : j = ss.length := by omega
      rw [List.take_length] at Ho
      obtain ⟨F, hF⟩ : ∃ F, ss.flatMap L = F := ⟨_, rfl⟩
      rw [hF] at Ho hp
      have HF := hide hF
      clear hF
      have hcv := conv_bytes F wr g _ (unhide Ho) hp
      obtain ⟨ac, cc, rfl⟩ := ownsRow_form (unhide Ho)
      go_wp2_with fail
      go_ret
      exact ⟨_, rfl, by rw [unhide HF]; exact L_list _, unhide Hb⟩

end Go.Proofs.YtdchbenfccofpabGreatDoor
namespace Go.Proofs.YtdchbenfccofpabGreatDoor
open Go.RowKit Db

def cellsG (l : List Cl) : List Value := l.flatMap fun c => [.int .i64 (gst c.2), .int .i64 c.1]
theorem cellsG_snoc (l : List Cl) (c : Cl) : cellsG (l ++ [c]) = cellsG l ++ [.int .i64 (gst c.2), .int .i64 c.1] := by simp [cellsG]
theorem cellsG_append (p q : List Cl) : cellsG (p ++ q) = cellsG p ++ cellsG q := by simp [cellsG]
theorem cellsG_length (p : List Cl) : (cellsG p).length = p.length * 2 := by
  induction p with
  | nil => rfl
  | cons x t ih => show (_ :: _ :: cellsG t).length = _; simp [ih]; omega
/-- Rows of cells as they lie in the program's sheet. -/
structure GCells (w : World) (B : Nat) (vc : Value) (vs : List Value) (cells : List (List Cl)) : Prop where
  own : w.ownsRow B 158 1 vc vs.length vs
  len : vs.length = cells.length
  row : ∀ (i : Nat) v c, vs[i]? = some v → cells[i]? = some c → w.ownsRow B 161 2 v c.length (cellsG c)
theorem GCells.kept {w w' : World} {B : Nat} {vc : Value} {vs : List Value} {cells : List (List Cl)} (h : GCells w B vc vs cells) (hb : Below w.heap.size w w') : GCells w' B vc vs cells :=
  ⟨ownsRow_below h.own hb, h.len, fun i v c h1 h2 => ownsRow_below (h.row i v c h1 h2) hb⟩
theorem GCells.nil (w : World) (B : Nat) : GCells w B (.slice none 0 0) [] [] := ⟨World.ownsRow_nil _ _ _ _, rfl, by intro i v c h; simp at h⟩
/-- The sheet, as it lies at q: the periods, the ledger at p, the cells so far. -/
structure ShtAt (w : World) (q : Nat) (b : Bk) (pd : List (List UInt8 × List UInt8)) (cells : List (List Cl)) (p : Nat) (vp vc : Value) (vs : List Value) : Prop where
  blk : Blk w q #[vp, .pointer (some ⟨p, 0, none⟩), vc] 124
  led : ∃ B, Led w B p b
  per : ∃ B, w.ownsRow B 114 2 vp pd.length (cellsD pd)
  cs : GCells w (q + 1) vc vs cells
  wid : ∀ row ∈ cells, row.length = pd.length
  few : pd.length ≤ 4 ∧ cells.length ≤ 8
  ok : ∀ row ∈ cells, ∀ c ∈ row, ClOk c
theorem Led.kept {w w' : World} {B p : Nat} {s : Bk} (h : Led w B p s) (hb : Below w.heap.size w w') : Led w' B p s := by
  obtain ⟨a, c, d, k, h⟩ := h
  exact ⟨a, c, d, k, h.kept hb⟩
theorem ShtAt.kept {w w' : World} {q : Nat} {b : Bk} {pd : List (List UInt8 × List UInt8)} {cells : List (List Cl)} {p : Nat} {vp vc : Value} {vs : List Value} (h : ShtAt w q b pd cells p vp vc vs) (hb : Below w.heap.size w w') : ShtAt w' q b pd cells p vp vc vs :=
  ⟨h.blk.kept hb, (let ⟨B, hl⟩ := h.led; ⟨B, hl.kept hb⟩), (let ⟨B, hl⟩ := h.per; ⟨B, ownsRow_below hl hb⟩), h.cs.kept hb, h.wid, h.few, h.ok⟩
def Sht' (w : World) (q : Nat) (b : Bk) (pd : List (List UInt8 × List UInt8)) (cells : List (List Cl)) : Prop := ∃ p vp vc vs, ShtAt w q b pd cells p vp vc vs
theorem Sht'.kept {w w' : World} {q : Nat} {b : Bk} {pd : List (List UInt8 × List UInt8)} {cells : List (List Cl)} (h : Sht' w q b pd cells) (hb : Below w.heap.size w w') : Sht' w' q b pd cells := by
  obtain ⟨p, vp, vc, vs, h⟩ := h
  exact ⟨p, vp, vc, vs, h.kept hb⟩
theorem Sht'.good {w : World} {q : Nat} {b : Bk} {pd : List (List UInt8 × List UInt8)} {cells : List (List Cl)} (h : Sht' w q b pd cells) : BkGood b := by
  obtain ⟨_, _, _, _, h⟩ := h
  obtain ⟨_, _, _, _, _, h⟩ := h.led
  exact h.good

set_option maxRecDepth 100000 in
set_option maxHeartbeats 1000000 in
theorem namesAccount_any (s n : Int) (w : World) :
    Calls Tryz.prog 79 #[.agg #[.int .u8 s, .int .i64 n]] w fun e w' => e = .returned (.bool (selB s)) ∧ Below w.heap.size w w' := by
  by_cases h1 : (s == 64) = true <;> by_cases h2 : (s == 33) = true
  all_goals
    go_enter Tryz.func79, Tryz.ntmps79
    go_wp2_with fail
    go_ret
    exact ⟨by simp_all [selB], (Below.refl _ _).alloc (Nat.le_refl _) _⟩

set_option maxRecDepth 100000 in
set_option maxHeartbeats 1000000 in
theorem has_any (B p : Nat) (s : Bk) (a : Int) (w : World) (h : Led w B p s) :
    Calls Tryz.prog 80 #[.pointer (some ⟨p, 0, none⟩), .int .i64 a] w fun e w' => e = .returned (.bool (ther s a)) ∧ w' = w := by
  obtain ⟨va, vt, tv, dk, h⟩ := h
  obtain ⟨g, cap, rfl, hg, hg'⟩ := ownsRow_some h.acs h.good.one
  have c0 := h.blk.cell 0
  have hpl := h.blk.lt
  simp only [List.getElem?_toArray, List.getElem?_cons_zero] at c0
  have hfew := h.good.few
  obtain ⟨r, hr⟩ : ∃ r, ther s a = r := ⟨_, rfl⟩
  rw [hr]
  unfold ther at hr
  clear h
  by_cases h1 : 0 ≤ a
  · by_cases h2 : a < s.acs.length
    · obtain rfl : r = true := by rw [← hr]; simp [h1, h2]
      clear hr
      go_enter Tryz.func80, Tryz.ntmps80
      go_wp2_with fail
      go_ret
      exact ⟨rfl, rfl⟩
    · obtain rfl : r = false := by rw [← hr]; simp [h2]
      clear hr
      go_enter Tryz.func80, Tryz.ntmps80
      go_wp2_with fail
      go_ret
      exact ⟨rfl, rfl⟩
  · obtain rfl : r = false := by rw [← hr]; simp [h1]
    clear hr
    go_enter Tryz.func80, Tryz.ntmps80
    go_wp2_with fail
    go_ret
    exact ⟨rfl, rfl⟩

set_option maxRecDepth 100000 in
set_option maxHeartbeats 1000000 in
theorem gText_any (c : Cl) (w : World) (hc : ClOk c) (ht : Tab w) :
    Calls Tryz.prog 82 #[gV c] w fun e w' => ∃ u : ByteArray, e = .returned (.string u) ∧ L u = cellT c ∧ u.size ≤ 21 ∧ Below w.heap.size w w' := by
  rcases hc with ⟨h0, hin⟩ | rfl | rfl
  · obtain ⟨a, b⟩ := c
    simp only at h0 hin
    subst h0
    unfold gV
    rw [gst_z0]
    have hr := inR_iff.1 hin
    have Ht := hide ht
    simp only
    clear hin ht
    go_enter Tryz.func82, Tryz.ntmps82
    go_wp2_with fail
    refine (itoa_any a _ hr.1 hr.2 ((unhide Ht).below (by exact (Below.refl _ _).alloc (Nat.le_refl _) _))).mono ?_
    rintro e w1 ⟨u, rfl, hu, hb⟩
    have Hu := hide hu
    have Hb : Hid (Below w.heap.size w w1) := ((Below.refl _ _).alloc (Nat.le_refl _) _).then' (by simp) hb
    clear hu hb
    go_wp2_with fail
    go_ret
    exact ⟨u, rfl, unhide Hu, itoa_size hr.1 hr.2 (unhide Hu), unhide Hb⟩
  all_goals
    unfold gV gst
    clear ht
    go_enter Tryz.func82, Tryz.ntmps82
    go_wp2_with fail
    go_ret
    exact ⟨_, rfl, rfl, by decide, (Below.refl _ _).alloc (Nat.le_refl _) _⟩

end Go.Proofs.YtdchbenfccofpabGreatDoor
namespace Go.Proofs.YtdchbenfccofpabGreatDoor
open Go.RowKit Db

theorem selq_drop {q : Int → Bool} {ps : List Pt} {k : Nat} {p : Pt} (h : ps[k]? = some p) : selq q (ps.drop k) = ((selB p.1 && q p.2) || selq q (ps.drop (k + 1))) := any_drop (f := fun p : Pt => selB p.1 && q p.2) h

set_option maxRecDepth 100000 in
set_option maxHeartbeats 4000000 in
theorem sHasAccounts_any (Bl p : Nat) (b : Bk) (vr : Value) (vs : List Value) (pss : List (List Pt)) (B : Nat) (w : World) (hl : Led w Bl p b) (h : RowsAt w B vr vs pss) (h8 : pss.length ≤ 8) :
    Calls Tryz.prog 59 #[.pointer (some ⟨p, 0, none⟩), vr] w fun e w' => e = .returned (.bool (!pss.any (selq (notB b)))) ∧ Below w.heap.size w w' := by
  obtain ⟨ao, cap, rfl⟩ := ownsRow_form h.own
  have hvl : vs.length ≤ 8 := by rw [h.len]; exact h8
  have Hlen := hide h.len
  have H := hide h
  have HL := hide hl
  clear h hl
  go_enter Tryz.func59, Tryz.ntmps59
  go_wp2_with fail
  go_loopg [11] vs.length (fun m i wr => ∃ j : Nat, j ≤ vs.length ∧ m = vs.length - j ∧ i = .int .i64 j ∧ Hid ((pss.drop j).any (selq (notB b)) = pss.any (selq (notB b))) ∧ Hid (Below w.heap.size w wr))
  case atStart => exact ⟨0, by omega, rfl, rfl, rfl, Below.refl _ _⟩
  case round =>
    obtain ⟨j, hj, rfl, rfl, Hany, Hb⟩ := hrel
    have hsz := (unhide Hb).size
    by_cases hlt : j < vs.length
    · obtain ⟨v, hv⟩ : ∃ v, vs[j]? = some v := ⟨vs[j], List.getElem?_eq_getElem hlt⟩
      obtain ⟨ps, hps⟩ : ∃ ps, pss[j]? = some ps := ⟨pss[j]'(by have := unhide Hlen; omega), List.getElem?_eq_getElem _⟩
      obtain ⟨g, _, e1, hg, hg'⟩ := ownsRow_some (unhide H).own (by omega)
      simp only [Value.slice.injEq, true_and] at e1
      obtain ⟨rfl, rfl⟩ := e1
      have hro := ownsRow_below (unhide H).own (unhide Hb)
      have d := ownsRow_cell hro (j := j) hv
      have hrow := (unhide H).row j v ps hv hps
      have hpl := (unhide H).bd ps (List.mem_of_getElem? hps)
      obtain ⟨aop, capp, rfl⟩ := ownsRow_form hrow
      have Hrow := hide hrow
      have Hdr := hide (any_drop (f := selq (notB b)) hps)
      clear hro hv hps hrow
      go_wp2_with fail
      obtain ⟨W, hW⟩ : ∃ W, wr.alloc (.cells #[.slice aop ps.length capp] 118) = W := ⟨_, rfl⟩
      rw [hW]
      have HbW : Hid (Below w.heap.size w W) := by rw [← hW]; exact (unhide Hb).alloc hsz _
      clear hW
      go_loopg [18] ps.length (fun m i wx => ∃ k : Nat, k ≤ ps.length ∧ m = ps.length - k ∧ i = .int .i64 k ∧ Hid (selq (notB b) (ps.drop k) = selq (notB b) ps) ∧ Hid (Below w.heap.size w wx))
      case atStart => exact ⟨0, by omega, rfl, rfl, rfl, unhide HbW⟩
      case round =>
        obtain ⟨k, hk, rfl, rfl, Hs, Hbx⟩ := hrel
        have hszx := (unhide Hbx).size
        by_cases hlk : k < ps.length
        · obtain ⟨⟨sg, nm⟩, hp⟩ : ∃ q, ps[k]? = some q := ⟨ps[k], List.getElem?_eq_getElem hlk⟩
          obtain ⟨g2, _, e1, hg2, hg2'⟩ := ownsRow_some (unhide Hrow) (by omega)
          simp only [Value.slice.injEq, true_and] at e1
          obtain ⟨rfl, rfl⟩ := e1
          have hro := ownsRow_below (unhide Hrow) (unhide Hbx)
          have h2 := two_get (fun p : Pt => Value.int .u8 p.1) (fun p => Value.int .i64 p.2) ps k (sg, nm) hp
          have d1 := ownsRow_cell hro (j := k * 2) h2.1
          have d2 := ownsRow_cell hro (j := k * 2 + 1) h2.2
          have Hst := hide (selq_drop (q := notB b) hp)
          simp only at d1 d2 Hst
          obtain ⟨sel, hsel⟩ : ∃ sel, selB sg = sel := ⟨_, rfl⟩
          have Hna := hide (fun wx : World => namesAccount_any sg nm wx)
          rw [hsel] at Hst Hna
          clear hro h2 hp hsel
          go_wp2_with fail
          refine (unhide Hna _).mono ?_
          rintro e w2 ⟨rfl, hb2⟩
          have f1 := hb2.cell (p := ⟨wr.heap.size, 1, none⟩) (by simp)
          simp at f1
          have hsz2 := hb2.size
          simp at hsz2
          have Hb2 := hide (((unhide Hbx).alloc hszx _).then' (by simp; omega) hb2)
          clear hb2 Hna
          cases sel with
          | false =>
            go_wp2_with fail
            go_roundg (ps.length - (k + 1))
            case measure => omega
            case rel => exact ⟨k + 1, by omega, rfl, by go_num, by show _ = _; rw [← unhide Hs, unhide Hst]; simp, unhide Hb2⟩
          | true =>
            have Hha := hide (has_any Bl p b nm w2 ((unhide HL).kept (unhide Hb2)))
            obtain ⟨th, hth⟩ : ∃ th, ther b nm = th := ⟨_, rfl⟩
            rw [show notB b nm = !th by unfold notB; rw [hth]] at Hst
            rw [hth] at Hha
            clear hth
            go_wp2_with fail
            refine (unhide Hha).mono ?_
            rintro e w3 ⟨rfl, rfl⟩
            cases th with
            | true =>
              go_wp2_with fail
              go_roundg (ps.length - (k + 1))
              case measure => omega
              case rel => exact ⟨k + 1, by omega, rfl, by go_num, by show _ = _; rw [← unhide Hs, unhide Hst]; simp, unhide Hb2⟩
            | false =>
              go_wp2_with fail
              go_ret
              exact ⟨retB' (by rw [← unhide Hany, unhide Hdr, ← unhide Hs, unhide Hst]; simp), unhide Hb2⟩
        · obtain rfl : k = ps.length := by omega
          have Hno : Hid (selq (notB b) ps = false) := by show _ = _; rw [← unhide Hs, List.drop_length]; rfl
          go_wp2_with fail
          go_roundg (vs.length - (j + 1))
          case measure => omega
          case rel => exact ⟨j + 1, by omega, rfl, by go_num, by show _ = _; rw [← unhide Hany, unhide Hdr, unhide Hno]; simp, unhide Hbx⟩
    · obtain rfl : j = vs.length := by omega
      go_wp2_with fail
      go_ret
      exact ⟨retB' (by rw [← unhide Hany, unhide Hlen, List.drop_length]; rfl), unhide Hb⟩

/-- The cells that a name reads. -/
theorem grow_get {w : World} {q : Nat} {b : Bk} {pd : List (List UInt8 × List UInt8)} {cells : List (List Cl)} {p : Nat} {vp vc : Value} {vs : List Value} (h : ShtAt w q b pd cells p vp vc vs) {n k : Nat} (hn : n < cells.length) (hk : k < pd.length) :
    ∃ gc capc gr capr x y, vc = .slice (some ⟨gc, 0, none⟩) cells.length capc ∧ w.cell? ⟨gc, n, none⟩ = some (.slice (some ⟨gr, 0, none⟩) pd.length capr) ∧ w.cell? ⟨gr, k * 2, none⟩ = some (.int .i64 (gst y)) ∧ w.cell? ⟨gr, k * 2 + 1, none⟩ = some (.int .i64 x) ∧ (cells.getD n []).getD k (0, 0) = (x, y) ∧ gc < w.heap.size ∧ gr < w.heap.size := by
  obtain ⟨v, hv⟩ : ∃ v, vs[n]? = some v := ⟨vs[n]'(by rw [h.cs.len]; exact hn), List.getElem?_eq_getElem _⟩
  obtain ⟨c, hc⟩ : ∃ c, cells[n]? = some c := ⟨cells[n], List.getElem?_eq_getElem hn⟩
  have hr := h.cs.row n v c hv hc
  have hcl := h.wid c (List.mem_of_getElem? hc)
  obtain ⟨gc, capc, rfl, hg, hg'⟩ := ownsRow_some h.cs.own (by rw [h.cs.len]; omega)
  obtain ⟨gr, capr, rfl, hr1, hr2⟩ := ownsRow_some hr (by omega)
  obtain ⟨x, hx⟩ : ∃ x, c[k]? = some x := ⟨c[k]'(by omega), List.getElem?_eq_getElem _⟩
  have h2 := two_get (fun c : Cl => Value.int .i64 (gst c.2)) (fun c => Value.int .i64 c.1) c k x hx
  have d0 := ownsRow_cell h.cs.own (j := n) hv
  have d1 := ownsRow_cell hr (j := k * 2) h2.1
  have d2 := ownsRow_cell hr (j := k * 2 + 1) h2.2
  refine ⟨gc, capc, gr, capr, x.1, x.2, by rw [h.cs.len], by rw [d0, hcl], d1, d2, ?_, hg', hr2⟩
  have e1 : cells.getD n [] = c := by rw [List.getD_eq_getElem?_getD, hc, Option.getD_some]
  rw [e1, List.getD_eq_getElem?_getD, hx, Option.getD_some]
theorem three_cells {W : World} {n : Nat} {a b c : Value} {T : TypeId} (B : Blk W n #[a, b, c] T) : W.cell? ⟨n, 0, none⟩ = some a ∧ W.cell? ⟨n, 1, none⟩ = some b ∧ W.cell? ⟨n, 2, none⟩ = some c := by
  refine ⟨?_, ?_, ?_⟩ <;> rw [B.cell] <;> rfl

set_option maxRecDepth 100000 in
set_option maxHeartbeats 2000000 in
theorem at_cell (q n k : Nat) (b : Bk) (pd : List (List UInt8 × List UInt8)) (cells : List (List Cl)) (w : World) (h : Sht' w q b pd cells) (hn : n < cells.length) (hk : k < pd.length) :
    Calls Tryz.prog 118 #[.pointer (some ⟨q, 0, none⟩), .int .i64 (n : Int), .int .i64 (k : Int)] w fun e w' => e = .returned (gV ((cells.getD n []).getD k (0, 0))) ∧ Below w.heap.size w w' := by
  obtain ⟨p, vp, vc, vs, h⟩ := h
  obtain ⟨gc, capc, gr, capr, x, y, rfl, r1, r2, r3, hxy, hgc, hgr⟩ := grow_get h hn hk
  rw [hxy]
  obtain ⟨c0, c1, c2⟩ := three_cells h.blk
  have hql := h.blk.lt
  have hf := h.few
  have hnc : (n : Int) < (cells.length : Int) := by omega
  have hkp : (k : Int) < (pd.length : Int) := by omega
  have hnn : ¬ (cells.length : Int) ≤ (n : Int) := by omega
  have hkk : ¬ (pd.length : Int) ≤ (k : Int) := by omega
  unfold gV
  simp only
  obtain ⟨z, hz⟩ : ∃ z, gst y = z := ⟨_, rfl⟩
  rw [hz] at r2 ⊢
  clear h hxy hz
  go_enter Tryz.func118, Tryz.ntmps118
  go_wp2_with fail
  refine bodyPost_ret (v := .agg #[.int .i64 z, .int .i64 x]) (by simp [results, Tryz.results118, go_sem]) rfl ⟨rfl, ?_⟩
  first
    | exact (((Below.refl _ _).alloc (Nat.le_refl _) _).setCell (by simp) _).setCell (by simp) _
    | exact (Below.refl _ _).alloc (Nat.le_refl _) _

set_option maxRecDepth 100000 in
set_option maxHeartbeats 2000000 in
theorem at_first (q n : Nat) (b : Bk) (pd : List (List UInt8 × List UInt8)) (cells : List (List Cl)) (w : World) (h : Sht' w q b pd cells) (hn : n < cells.length) (hk : 0 < pd.length) :
    Calls Tryz.prog 118 #[.pointer (some ⟨q, 0, none⟩), .int .i64 (n : Int), .int .i64 (-1)] w fun e w' => e = .returned (gV (0, 0)) ∧ Below w.heap.size w w' := by
  obtain ⟨p, vp, vc, vs, h⟩ := h
  obtain ⟨gc, capc, gr, capr, x, y, rfl, r1, r2, r3, hxy, hgc, hgr⟩ := grow_get h hn hk
  obtain ⟨c0, c1, c2⟩ := three_cells h.blk
  have hql := h.blk.lt
  have hf := h.few
  have hnc : (n : Int) < (cells.length : Int) := by omega
  have hnn : ¬ (cells.length : Int) ≤ (n : Int) := by omega
  unfold gV
  simp only
  rw [gst_z0]
  clear h hxy
  go_enter Tryz.func118, Tryz.ntmps118
  go_wp2_with fail
  refine (of_any 0 _).mono ?_
  rintro e w1 ⟨rfl, hb⟩
  have HB : Hid (Below w.heap.size w w1) := ((Below.refl _ _).alloc (Nat.le_refl _) _).then' (by simp) hb
  obtain ⟨r0, r1, z0, z1, lr⟩ := two_cells ((Blk.new w #[.int .i64 0, .int .i64 0] 161).kept hb)
  clear hb
  go_wp2_with fail
  refine bodyPost_ret (v := .agg #[.int .i64 0, .int .i64 0]) (by simp [results, Tryz.results118, go_sem, r0, r1]) rfl ⟨rfl, ?_⟩
  exact ((unhide HB).setCell (by simp) _).setCell (by simp) _

end Go.Proofs.YtdchbenfccofpabGreatDoor
