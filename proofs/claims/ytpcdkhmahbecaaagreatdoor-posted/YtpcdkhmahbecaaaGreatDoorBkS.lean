/- The law's pair of books: opened, closed. -/
import Derived.Test.YtpcdkhmahbecaaaGreatDoorBkP
import Derived.Test.YtpcdkhmahbecaaaGreatDoorBkR
import Derived.Deep.RegionHeld3
namespace Go.Proofs.YtpcdkhmahbecaaaGreatDoor
open Go.RowKit Db

/-- The program's book and the document's, both as s says. -/
structure PairAt (w : World) (B q p c : Nat) (s : Bk) : Prop where
  blk : Blk w q #[.pointer (some ⟨p, 0, none⟩), .pointer (some ⟨c, 0, none⟩), .slice none 0 0, .slice none 0 0] 30
  led : Led w B p s
  rfd : Rfd w B c s
theorem PairAt.kept {w w' : World} {B q p c : Nat} {s : Bk} (h : PairAt w B q p c s) (hb : Below w.heap.size w w') : PairAt w' B q p c s := by
  obtain ⟨h1, ⟨va, vt, tv, h2⟩, ⟨vp, vc, vu, tu, h3⟩⟩ := h
  exact ⟨h1.kept hb, ⟨_, _, _, h2.kept hb⟩, ⟨_, _, _, _, h3.kept hb⟩⟩
theorem Rfd.frT {w w' : World} {B B' p : Nat} {s : Bk} (h : Rfd w B p s) (hf : FrT B' tP w w') : Rfd w' B p s := by
  obtain ⟨vp, vc, vu, tu, h3⟩ := h
  exact ⟨_, _, _, _, h3.frT hf (by decide) (by decide)⟩
theorem Led.frT {w w' : World} {B B' p : Nat} {s : Bk} (h : Led w B p s) (hf : FrT B' tR w w') : Led w' B p s := by
  obtain ⟨va, vt, tv, h3⟩ := h
  exact ⟨_, _, _, h3.frT hf (by decide) (by decide)⟩
def tAll : List TypeId := tP ++ tR
theorem below_drew (w : World) : Below w.heap.size w w.drew := ⟨rfl, rfl, rfl, Nat.le_refl _, fun _ _ => rfl⟩
theorem Led.drew {w : World} {B p : Nat} {s : Bk} (h : Led w B p s) : Led w.drew B p s := by
  obtain ⟨va, vt, tv, h⟩ := h; exact ⟨_, _, _, h.kept (below_drew w)⟩
theorem Rfd.drew {w : World} {B p : Nat} {s : Bk} (h : Rfd w B p s) : Rfd w.drew B p s := by
  obtain ⟨vp, vc, vu, tu, h⟩ := h; exact ⟨_, _, _, _, h.kept (below_drew w)⟩

set_option maxRecDepth 100000 in
set_option maxHeartbeats 4000000 in
theorem opened_any (B q p c : Nat) (s : Bk) (kd bk a b : Int) (ao : Option Addr) (n cap : Nat) (t : ByteArray) (w : World) (h : PairAt w B q p c s) :
    Calls Tryz.prog 36 #[.pointer (some ⟨q, 0, none⟩), .agg #[.int .i64 kd, .int .i64 bk, .int .i64 a, .int .i64 b, .slice ao n cap, .string t]] w fun e w' => e = .returned (.bool true) ∧ PairAt w' B q p c (opn s a).2.2 ∧ FrT B tAll w w' := by
  obtain ⟨bx, hbx⟩ : ∃ bx, w.heap.size = bx := ⟨_, rfl⟩
  obtain ⟨W, hW⟩ : ∃ W, w.alloc (.cells #[.int .i64 kd, .int .i64 bk, .int .i64 a, .int .i64 b, .slice ao n cap, .string t] 33) = W := ⟨_, rfl⟩
  have HX : Hid (Blk W bx #[.int .i64 kd, .int .i64 bk, .int .i64 a, .int .i64 b, .slice ao n cap, .string t] 33) := by rw [← hW, ← hbx]; exact Blk.new _ _ _
  have Hb0 : Hid (Below w.heap.size w W) := by rw [← hW]; exact (Below.refl _ _).alloc (Nat.le_refl _) _
  have H0 := hide (h.kept (unhide Hb0))
  have Hop := hide (fun (wx : World) (h : Led wx B p s) => dayOpen_any B p s a wx h)
  have Hor := hide (fun (wx : World) (h : Rfd wx B c s) => refOpen_any B c s a wx h)
  obtain ⟨⟨x, y, s'⟩, hr⟩ : ∃ r, opn s a = r := ⟨_, rfl⟩
  rw [hr] at Hop Hor ⊢
  simp only at Hop Hor ⊢
  have c0 := (unhide H0).blk.cell 0
  have x2 := (unhide HX).cell 2
  simp only [List.getElem?_toArray, List.getElem?_cons_zero, List.getElem?_cons_succ] at c0 x2
  clear h hr
  go_enter Tryz.func36, Tryz.ntmps36
  go_upto_region 1 with fail
  try rw [hW]
  try rw [hbx]
  clear hW hbx
  go_region_held3 (fun w' => w'.cell? ⟨q, 0, none⟩ = some (.pointer (some ⟨p, 0, none⟩)) ∧ w'.cell? ⟨bx, 2, none⟩ = some (.int .i64 a)) (first | go_keep | exact ⟨k1, k2⟩) (first | (go_at_call 63; refine (unhide Hop _ (by exact (unhide H0).led.drew)).mono ?_; rintro e w4 ⟨rfl, h1, h2⟩; have h2u := h2.undrew; have k1 := ((unhide H0).blk.frT h2u (by decide)).cell 0; have k2 := ((unhide HX).frT h2u (by decide)).cell 2; simp only [List.getElem?_toArray, List.getElem?_cons_zero, List.getElem?_cons_succ] at k1 k2))
  have HL4 := hide h1
  have HF4 := hide h2.undrew
  have HB4 := hide ((unhide H0).blk.frT h2.undrew (by decide))
  have HX4 := hide ((unhide HX).frT h2.undrew (by decide))
  have HR4 := hide ((unhide H0).rfd.frT h2.undrew)
  have k3 := (unhide HB4).cell 1
  simp only [List.getElem?_toArray, List.getElem?_cons_zero, List.getElem?_cons_succ] at k3
  clear h1 h2 h2u k1 c0 x2
  go_upto_region 2 with fail
  go_region_held3 (fun w' => w'.cell? ⟨q, 1, none⟩ = some (.pointer (some ⟨c, 0, none⟩)) ∧ w'.cell? ⟨bx, 2, none⟩ = some (.int .i64 a)) (first | go_keep | exact ⟨j1, j2⟩) (first | (go_at_call 7; refine (unhide Hor _ (by exact (unhide HR4).drew)).mono ?_; rintro e w5 ⟨rfl, h1, h2⟩; have h2u := h2.undrew; have j1 := ((unhide HB4).frT h2u (by decide)).cell 1; have j2 := ((unhide HX4).frT h2u (by decide)).cell 2; simp only [List.getElem?_toArray, List.getElem?_cons_zero, List.getElem?_cons_succ] at j1 j2))
  have HF : Hid (PairAt w5 B q p c s' ∧ FrT B tAll w w5) := ⟨⟨(unhide HB4).frT h2.undrew (by decide), (unhide HL4).frT h2.undrew, h1⟩, ((FrT.of_below (unhide Hb0)).trans ((unhide HF4).mono (by simp [tAll]; intros; simp [*]))).trans (h2.undrew.mono (by simp [tAll]; intros; simp [*]))⟩
  have e1 : (x == x) = true := by simp
  have e2 : (y == y) = true := by simp
  clear h1 h2 h2u j1 j2 k2 k3
  go_wp2_with fail
  go_ret
  exact ⟨rfl, (unhide HF).1, (unhide HF).2⟩

set_option maxRecDepth 100000 in
set_option maxHeartbeats 4000000 in
theorem closed_any (B q p c : Nat) (s : Bk) (kd bk a b : Int) (ao : Option Addr) (n cap : Nat) (t : ByteArray) (w : World) (h : PairAt w B q p c s) :
    Calls Tryz.prog 37 #[.pointer (some ⟨q, 0, none⟩), .agg #[.int .i64 kd, .int .i64 bk, .int .i64 a, .int .i64 b, .slice ao n cap, .string t]] w fun e w' => e = .returned (.bool true) ∧ PairAt w' B q p c (cls s a).2 ∧ FrT B tAll w w' := by
  obtain ⟨bx, hbx⟩ : ∃ bx, w.heap.size = bx := ⟨_, rfl⟩
  obtain ⟨W, hW⟩ : ∃ W, w.alloc (.cells #[.int .i64 kd, .int .i64 bk, .int .i64 a, .int .i64 b, .slice ao n cap, .string t] 33) = W := ⟨_, rfl⟩
  have HX : Hid (Blk W bx #[.int .i64 kd, .int .i64 bk, .int .i64 a, .int .i64 b, .slice ao n cap, .string t] 33) := by rw [← hW, ← hbx]; exact Blk.new _ _ _
  have Hb0 : Hid (Below w.heap.size w W) := by rw [← hW]; exact (Below.refl _ _).alloc (Nat.le_refl _) _
  have H0 := hide (h.kept (unhide Hb0))
  have Hop := hide (fun (wx : World) (h : Led wx B p s) => dayClose_any B p s a wx h)
  have Hor := hide (fun (wx : World) (h : Rfd wx B c s) => refClose_any B c s a wx h)
  obtain ⟨⟨x, s'⟩, hr⟩ : ∃ r, cls s a = r := ⟨_, rfl⟩
  rw [hr] at Hop Hor ⊢
  simp only at Hop Hor ⊢
  have c0 := (unhide H0).blk.cell 0
  have x2 := (unhide HX).cell 2
  simp only [List.getElem?_toArray, List.getElem?_cons_zero, List.getElem?_cons_succ] at c0 x2
  clear h hr
  go_enter Tryz.func37, Tryz.ntmps37
  go_upto_region 1 with fail
  try rw [hW]
  try rw [hbx]
  clear hW hbx
  go_region_held3 (fun w' => w'.cell? ⟨q, 0, none⟩ = some (.pointer (some ⟨p, 0, none⟩)) ∧ w'.cell? ⟨bx, 2, none⟩ = some (.int .i64 a)) (first | go_keep | exact ⟨k1, k2⟩) (first | (go_at_call 64; refine (unhide Hop _ (by exact (unhide H0).led.drew)).mono ?_; rintro e w4 ⟨rfl, h1, h2⟩; have h2u := h2.undrew; have k1 := ((unhide H0).blk.frT h2u (by decide)).cell 0; have k2 := ((unhide HX).frT h2u (by decide)).cell 2; simp only [List.getElem?_toArray, List.getElem?_cons_zero, List.getElem?_cons_succ] at k1 k2))
  have HL4 := hide h1
  have HF4 := hide h2.undrew
  have HB4 := hide ((unhide H0).blk.frT h2.undrew (by decide))
  have HX4 := hide ((unhide HX).frT h2.undrew (by decide))
  have HR4 := hide ((unhide H0).rfd.frT h2.undrew)
  have k3 := (unhide HB4).cell 1
  simp only [List.getElem?_toArray, List.getElem?_cons_zero, List.getElem?_cons_succ] at k3
  clear h1 h2 h2u k1 c0 x2
  go_upto_region 2 with fail
  go_region_held3 (fun w' => w'.cell? ⟨q, 1, none⟩ = some (.pointer (some ⟨c, 0, none⟩)) ∧ w'.cell? ⟨bx, 2, none⟩ = some (.int .i64 a)) (first | go_keep | exact ⟨j1, j2⟩) (first | (go_at_call 8; refine (unhide Hor _ (by exact (unhide HR4).drew)).mono ?_; rintro e w5 ⟨rfl, h1, h2⟩; have h2u := h2.undrew; have j1 := ((unhide HB4).frT h2u (by decide)).cell 1; have j2 := ((unhide HX4).frT h2u (by decide)).cell 2; simp only [List.getElem?_toArray, List.getElem?_cons_zero, List.getElem?_cons_succ] at j1 j2))
  have HF : Hid (PairAt w5 B q p c s' ∧ FrT B tAll w w5) := ⟨⟨(unhide HB4).frT h2.undrew (by decide), (unhide HL4).frT h2.undrew, h1⟩, ((FrT.of_below (unhide Hb0)).trans ((unhide HF4).mono (by simp [tAll]; intros; simp [*]))).trans (h2.undrew.mono (by simp [tAll]; intros; simp [*]))⟩
  have e1 : (x == x) = true := by simp
  clear h1 h2 h2u j1 j2 k2 k3
  go_wp2_with fail
  go_ret
  exact ⟨rfl, (unhide HF).1, (unhide HF).2⟩

end Go.Proofs.YtpcdkhmahbecaaaGreatDoor
