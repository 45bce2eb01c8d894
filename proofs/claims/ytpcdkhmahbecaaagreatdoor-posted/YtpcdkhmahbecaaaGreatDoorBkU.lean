/- The law's pair of books: do, begun, played. -/
import Derived.Test.YtpcdkhmahbecaaaGreatDoorBkT
namespace Go.Proofs.YtpcdkhmahbecaaaGreatDoor
open Go.RowKit Db

theorem ownsRow_down {w : World} {B B' : Nat} {e : TypeId} {size : Nat} {v : Value} {n : Nat} {xs : List Value} (h : w.ownsRow B e size v n xs) (hB : B' ≤ B) : w.ownsRow B' e size v n xs :=
  ownsRow_base h (fun k hk => Nat.le_trans hB (ownsRow_tg h k hk).1)
theorem RefAt.base {w : World} {B B' p : Nat} {vp vc vt : Value} {tv : List (Tn × Value)} {s : Bk} (h : RefAt w B p vp vc vt tv s) (hB : B' ≤ B) : RefAt w B' p vp vc vt tv s :=
  ⟨h.blk, Nat.le_trans hB h.lo, ownsRow_down h.par hB, ownsRow_down h.clo hB, ⟨ownsRow_down h.txs.own hB, fun x hx => ownsRow_down (h.txs.lns x hx) hB⟩, h.jr, h.good⟩
/-- A step as it came in. -/
structure ActV where
  kd : Int
  bk : Int
  a : Int
  b : Int
  ao : Option Addr
  cap : Nat
  ls : List Ln
  t : ByteArray
def ActV.val (x : ActV) : Value := .agg #[.int .i64 x.kd, .int .i64 x.bk, .int .i64 x.a, .int .i64 x.b, .slice x.ao x.ls.length x.cap, .string x.t]
/-- Its lines can be read, below B. -/
structure ActOk (w : World) (B : Nat) (x : ActV) : Prop where
  at' : LinesAt w (.slice x.ao x.ls.length x.cap) x.ls
  lo : x.ls = [] ∨ ∀ k, (Value.slice x.ao x.ls.length x.cap).ownBlock = some k → k < B
  few : x.ls.length ≤ 8796093022000
def does (k : Int) : Bool := k == 1 || k == 2 || k == 3
def stp (s : Bk) (x : ActV) : Bk := if x.kd == 1 then (opn s x.a).2.2 else if x.kd == 2 then (cls s x.a).2 else if x.kd == 3 then (pst s x.a x.b x.ls).2 else s

set_option maxRecDepth 100000 in
set_option maxHeartbeats 4000000 in
theorem do_any (B q p c : Nat) (s : Bk) (x : ActV) (w : World) (h : PairAt w B q p c s) (hx : ActOk w B x) (hd : does x.kd = true) :
    Calls Tryz.prog 22 #[.pointer (some ⟨q, 0, none⟩), x.val] w fun e w' => e = .returned (.bool true) ∧ PairAt w' B q p c (stp s x) ∧ FrT B tLaw w w' := by
  obtain ⟨kd, bk, a, b, ao, cap, ls, t⟩ := x
  obtain ⟨hl, hlo, hn⟩ := hx
  simp only at hl hlo hn hd
  unfold ActV.val
  simp only
  obtain ⟨W, hW⟩ : ∃ W, w.alloc (.cells #[.int .i64 kd, .int .i64 bk, .int .i64 a, .int .i64 b, .slice ao ls.length cap, .string t] 33) = W := ⟨_, rfl⟩
  have HX : Hid (Blk W w.heap.size #[.int .i64 kd, .int .i64 bk, .int .i64 a, .int .i64 b, .slice ao ls.length cap, .string t] 33) := by rw [← hW]; exact Blk.new _ _ _
  have Hb0 : Hid (Below w.heap.size w W) := by rw [← hW]; exact (Below.refl _ _).alloc (Nat.le_refl _) _
  have H0 := hide (h.kept (unhide Hb0))
  have Hl0 := hide (hl.kept (unhide Hb0))
  have Hlo := hide hlo
  have x0 := (unhide HX).cell 0
  have x1 := (unhide HX).cell 1
  have x2 := (unhide HX).cell 2
  have x3 := (unhide HX).cell 3
  have x4 := (unhide HX).cell 4
  have x5 := (unhide HX).cell 5
  simp only [List.getElem?_toArray, List.getElem?_cons_zero, List.getElem?_cons_succ] at x0 x1 x2 x3 x4 x5
  clear h hl hlo
  have h3 : kd = 1 ∨ kd = 2 ∨ kd = 3 := by
    unfold does at hd
    simp only [Bool.or_eq_true, beq_iff_eq] at hd
    omega
  rcases h3 with rfl | rfl | rfl
  · have hs : stp s ⟨1, bk, a, b, ao, cap, ls, t⟩ = (opn s a).2.2 := rfl
    rw [hs]
    have Hc := hide (opened_any B q p c s 1 bk a b ao ls.length cap t W (unhide H0))
    clear hs hd
    go_enter Tryz.func22, Tryz.ntmps22
    go_wp2_with fail
    try rw [hW]
    refine (unhide Hc).mono ?_
    rintro e w1 ⟨rfl, h1, h2⟩
    have H1 := hide h1
    have H2 : Hid (FrT B tLaw w w1) := (FrT.of_below (unhide Hb0)).trans (h2.mono (by simp [tLaw]; intros; simp [*]))
    clear h1 h2
    go_wp2_with fail
    go_ret
    exact ⟨rfl, unhide H1, unhide H2⟩
  · have hs : stp s ⟨2, bk, a, b, ao, cap, ls, t⟩ = (cls s a).2 := rfl
    rw [hs]
    have Hc := hide (closed_any B q p c s 2 bk a b ao ls.length cap t W (unhide H0))
    clear hs hd
    go_enter Tryz.func22, Tryz.ntmps22
    go_wp2_with fail
    try rw [hW]
    refine (unhide Hc).mono ?_
    rintro e w1 ⟨rfl, h1, h2⟩
    have H1 := hide h1
    have H2 : Hid (FrT B tLaw w w1) := (FrT.of_below (unhide Hb0)).trans (h2.mono (by simp [tLaw]; intros; simp [*]))
    clear h1 h2
    go_wp2_with fail
    go_ret
    exact ⟨rfl, unhide H1, unhide H2⟩
  · have hs : stp s ⟨3, bk, a, b, ao, cap, ls, t⟩ = (pst s a b ls).2 := rfl
    rw [hs]
    have Hc := hide (posted_any B q p c s 3 bk a b ao cap ls t W (unhide H0) (unhide Hl0) (unhide Hlo) hn)
    clear hs hd
    go_enter Tryz.func22, Tryz.ntmps22
    go_wp2_with fail
    try rw [hW]
    refine (unhide Hc).mono ?_
    rintro e w1 ⟨rfl, h1, h2⟩
    have H1 := hide h1
    have H2 : Hid (FrT B tLaw w w1) := (FrT.of_below (unhide Hb0)).trans h2
    clear h1 h2
    go_wp2_with fail
    go_ret
    exact ⟨rfl, unhide H1, unhide H2⟩

set_option maxRecDepth 100000 in
set_option maxHeartbeats 2000000 in
theorem begun_any (w : World) :
    Calls Tryz.prog 21 #[] w fun e w' => ∃ q p c, e = .returned (.pointer (some ⟨q, 0, none⟩)) ∧ PairAt w' w.heap.size q p c bk0 ∧ Below w.heap.size w w' := by
  go_enter Tryz.func21, Tryz.ntmps21
  go_wp2_with fail
  refine (dayNew_any _).mono ?_
  rintro e w1 ⟨p, rfl, hp, hb1⟩
  have Hp := hide hp
  have Hb1 := hide hb1
  clear hp hb1
  go_wp2_with fail
  refine (refNew_any _).mono ?_
  rintro e w2 ⟨c, rfl, hc, hb2⟩
  have HL : Hid (Led w2 w.heap.size p bk0) := by
    obtain ⟨va, vt, tv, h⟩ := unhide Hp
    exact ⟨_, _, _, h.kept hb2⟩
  have HR : Hid (Rfd w2 w.heap.size c bk0) := by
    obtain ⟨vp, vc, vu, tu, h⟩ := hc
    have hbs := (unhide Hb1).size
    exact ⟨_, _, _, _, h.base hbs⟩
  have Hb2 := hide ((unhide Hb1).then hb2)
  have hsz2 := (unhide Hb2).size
  clear hc hb2
  go_wp2_with fail
  go_ret
  have hal : Below w2.heap.size w2 (w2.alloc (Obj.cells #[Value.pointer (some { block := p, off := 0 }), Value.pointer (some { block := c, off := 0 }), Value.slice none 0 0, Value.slice none 0 0] 30)) := (Below.refl _ _).alloc (Nat.le_refl _) _
  obtain ⟨va, vt, tv, h1⟩ := unhide HL
  obtain ⟨vp, vc, vu, tu, h2⟩ := unhide HR
  exact ⟨_, p, c, rfl, ⟨Blk.new _ _ _, ⟨_, _, _, h1.kept hal⟩, ⟨_, _, _, _, h2.kept hal⟩⟩, (unhide Hb2).alloc hsz2 _⟩

end Go.Proofs.YtpcdkhmahbecaaaGreatDoor
