/- The reader: where it lies, what a call leaves of the rest; walks of skipBlanks, next. -/
import Derived.Test.YtpcdkhmahbecaaaDoorLeaf
import Derived.Deep.LoopGhost
import Derived.Test.YtpcdkhmahbecaaaDoorFrm
import Derived.Test.YtpcdkhmahbecaaaDoorParE
namespace Go.Proofs.YtpcdkhmahbecaaaDoor
open Go.RowKit Db

theorem retI {k : IntKind} {a b : Int} (h : a = b) : Ending.returned (.int k a) = .returned (.int k b) := by rw [h]
/-- The cells of parts. -/
def cellsP (ps : List Pt) : List Value := ps.flatMap fun p => [.int .u8 p.1, .int .i64 p.2]
theorem cellsP_append (p q : List Pt) : cellsP (p ++ q) = cellsP p ++ cellsP q := by simp [cellsP]
theorem cellsP_length (p : List Pt) : (cellsP p).length = p.length * 2 := by
  induction p with
  | nil => rfl
  | cons x t ih => simp [cellsP] at ih ⊢; omega

/-- The reader lies in block b: its text, its place, its parts. -/
structure Rd (w : World) (b : Nat) (t : ByteArray) (at_ : Nat) (v : Value) (ps : List Pt) : Prop where
  blk : Blk w b #[.string t, .int .i64 at_, v] 103
  own : w.ownsRow (b + 1) 109 2 v ps.length (cellsP ps)
  le : at_ ≤ t.size
  cnt : ps.length ≤ at_
  sz : t.size ≤ 200

/-- The blocks that the reader's calls may write. -/
def XR (b : Nat) (v : Value) (k : Nat) : Prop := k = b ∨ some k = v.ownBlock
/-- From w to w' the reader's calls have been at work. -/
structure RdR (b : Nat) (t : ByteArray) (v : Value) (w w' : World) (at_ : Nat) (v' : Value) (ps : List Pt) : Prop where
  rd : Rd w' b t at_ v' ps
  frm : Frm w.heap.size (XR b v) w w'
  own : v'.ownBlock = v.ownBlock ∨ ∀ k, v'.ownBlock = some k → w.heap.size ≤ k

theorem RdR.refl {b : Nat} {t : ByteArray} {v : Value} {w : World} {at_ : Nat} {ps : List Pt} (h : Rd w b t at_ v ps) : RdR b t v w w at_ v ps := ⟨h, Frm.refl _ _ _, .inl rfl⟩
theorem RdR.trans {b : Nat} {t : ByteArray} {v v1 v2 : Value} {w w1 w2 : World} {a1 a2 : Nat} {p1 p2 : List Pt} (h : RdR b t v w w1 a1 v1 p1) (k : RdR b t v1 w1 w2 a2 v2 p2) : RdR b t v w w2 a2 v2 p2 := by
  refine ⟨k.rd, h.frm.trans (k.frm.mono h.frm.size ?_), ?_⟩
  · intro j hj hx
    rcases hx with hx | hx
    · exact .inl hx
    · rcases h.own with e | e
      · exact .inr (by rw [← e]; exact hx)
      · have := e j hx.symm; omega
  · rcases k.own with e | e
    · rcases h.own with f | f
      · exact .inl (e.trans f)
      · exact .inr (fun j hj => f j (e ▸ hj))
    · exact .inr (fun j hj => Nat.le_trans h.frm.size (e j hj))
/-- The reader moved its place; nothing else is turned. -/
theorem Rd.move {b : Nat} {t : ByteArray} {v : Value} {w w1 : World} {a a' : Nat} {ps : List Pt} (h : Rd w b t a v ps) (hb : Below w.heap.size w w1) (ha : a' ≤ t.size) (hc : ps.length ≤ a') : RdR b t v w (w1.setCell ⟨b, 1, none⟩ (.int .i64 a')) a' v ps := by
  refine ⟨⟨?_, ?_, ha, hc, h.sz⟩, ?_, .inl rfl⟩
  · have := (h.blk.kept hb).set 1 (.int .i64 a')
    simpa using this
  · exact ownsRow_setCell_below (ownsRow_below h.own hb) (by simp) _
  · exact hb.frm.setCell (.inr (.inl rfl)) _
theorem Rd.draws {b : Nat} {t : ByteArray} {v : Value} {w : World} {a : Nat} {ps : List Pt} (h : Rd w b t a v ps) (n : Nat) : RdR b t v w (w.drewN n) a v ps :=
  ⟨⟨h.blk, h.own, h.le, h.cnt, h.sz⟩, (Frm.refl _ _ _).drewN n, .inl rfl⟩
theorem RdR.draws {b : Nat} {t : ByteArray} {v v' : Value} {w w1 : World} {a : Nat} {ps : List Pt} (h : RdR b t v w w1 a v' ps) (n : Nat) : RdR b t v w (w1.drewN n) a v' ps := h.trans (h.rd.draws n)
theorem Rd.below {b : Nat} {t : ByteArray} {v : Value} {w w1 : World} {a : Nat} {ps : List Pt} (h : Rd w b t a v ps) (hb : Below w.heap.size w w1) : RdR b t v w w1 a v ps :=
  ⟨⟨h.blk.kept hb, ownsRow_below h.own hb, h.le, h.cnt, h.sz⟩, hb.frm, .inl rfl⟩
theorem RdR.move {b : Nat} {t : ByteArray} {v v' : Value} {w w1 : World} {a a' : Nat} {ps : List Pt} (h : RdR b t v w w1 a v' ps) (ha : a' ≤ t.size) (hc : ps.length ≤ a') : RdR b t v w (w1.setCell ⟨b, 1, none⟩ (.int .i64 a')) a' v' ps := h.trans (h.rd.move (Below.refl _ _) ha hc)

/-- The three cells, as the walk wants them. -/
theorem Rd.c0 {w : World} {b : Nat} {t : ByteArray} {a : Nat} {v : Value} {ps : List Pt} (h : Rd w b t a v ps) : w.cell? ⟨b, 0, none⟩ = some (.string t) := h.blk.cell 0
theorem Rd.c1 {w : World} {b : Nat} {t : ByteArray} {a : Nat} {v : Value} {ps : List Pt} (h : Rd w b t a v ps) : w.cell? ⟨b, 1, none⟩ = some (.int .i64 a) := h.blk.cell 1
theorem Rd.c2 {w : World} {b : Nat} {t : ByteArray} {a : Nat} {v : Value} {ps : List Pt} (h : Rd w b t a v ps) : w.cell? ⟨b, 2, none⟩ = some v := h.blk.cell 2
theorem Rd.z1 {w : World} {b : Nat} {t : ByteArray} {a : Nat} {v : Value} {ps : List Pt} (h : Rd w b t a v ps) : w.frozen? ⟨b, 1, none⟩ = false := h.blk.frozen 1
theorem Rd.z2 {w : World} {b : Nat} {t : ByteArray} {a : Nat} {v : Value} {ps : List Pt} (h : Rd w b t a v ps) : w.frozen? ⟨b, 2, none⟩ = false := h.blk.frozen 2

theorem blanks_snoc (t : ByteArray) (p k : Nat) (x : List UInt8) (hk : k < t.size) (h32 : t[k].toNat = 32) (h : (L t).drop p = x ++ (L t).drop k) (hx : Blanks x) : (L t).drop p = (x ++ [t[k]]) ++ (L t).drop (k + 1) ∧ Blanks (x ++ [t[k]]) := by
  refine ⟨by rw [h, L_drop t k hk]; simp, ?_⟩
  intro c hc
  simp at hc
  rcases hc with hc | rfl
  · exact hx c hc
  · exact h32
theorem hd_drop (t : ByteArray) (k : Nat) (hk : k < t.size) : hd ((L t).drop k) = (t[k].toNat : Int) := by rw [L_drop t k hk]; rfl
theorem hd_end (t : ByteArray) (k : Nat) (hk : t.size ≤ k) : hd ((L t).drop k) = 0 := by rw [L_drop_end t k hk]; rfl

set_option maxHeartbeats 1000000 in
theorem skipBlanks_any (b : Nat) (t : ByteArray) (p : Nat) (v : Value) (ps : List Pt) (w : World) (h : Rd w b t p v ps) :
    Calls Tryd.prog 104 #[.pointer (some ⟨b, 0, none⟩)] w fun e w' => e = .returned (.tuple #[]) ∧ ∃ p' x, p ≤ p' ∧ RdR b t v w w' p' v ps ∧ (L t).drop p = x ++ (L t).drop p' ∧ Blanks x ∧ ¬ hd ((L t).drop p') = 32 := by
  have H := hide h
  have hsz := h.sz
  clear h
  go_enter Tryd.func104, Tryd.ntmps104
  go_wp2_with fail
  go_loopg [] (t.size - p) (fun m wr => ∃ k x, p ≤ k ∧ k ≤ t.size ∧ m = t.size - k ∧ Hid (RdR b t v w wr k v ps) ∧ Hid ((L t).drop p = x ++ (L t).drop k) ∧ Hid (Blanks x))
  case atStart => exact ⟨p, [], Nat.le_refl _, (unhide H).le, rfl, RdR.refl (unhide H), rfl, by intro c hc; cases hc⟩
  case round =>
    obtain ⟨k, x, hpk, hk, rfl, Hr, Hx, Hb⟩ := hrel
    have c0 := (unhide Hr).rd.c0
    have c1 := (unhide Hr).rd.c1
    have z1 := (unhide Hr).rd.z1
    by_cases hlt : k < t.size
    · have d1 : decide ((k : Int) < (t.size : Int)) = true := by simp; omega
      by_cases h32 : t[k].toNat = 32
      · have e32 : ((t[k].toNat : Int) == 32) = true := by simp; omega
        have Hs := hide (blanks_snoc t p k x hlt h32 (unhide Hx) (unhide Hb))
        go_wp2_with fail
        go_quiet (fail)
        go_wp2_with fail
        go_roundg (t.size - (k + 1))
        case measure => omega
        case rel =>
          refine ⟨k + 1, _, by omega, by omega, rfl, ?_, (unhide Hs).1, (unhide Hs).2⟩
          have := ((unhide Hr).draws nq).move (a' := k + 1) (by omega) (by have := (unhide Hr).rd.cnt; omega)
          show RdR _ _ _ _ _ _ _ _
          simpa using this
      · have e32 : ((t[k].toNat : Int) == 32) = false := by simp; omega
        have Hn : Hid (¬ hd ((L t).drop k) = 32) := by show ¬ _; rw [hd_drop t k hlt]; omega
        go_wp2_with fail
        go_quiet (fail)
        go_wp2_with fail
        go_end0
        exact ⟨rfl, k, x, hpk, (unhide Hr).draws _, unhide Hx, unhide Hb, unhide Hn⟩
    · have d1 : decide ((k : Int) < (t.size : Int)) = false := by simp; omega
      have Hn : Hid (¬ hd ((L t).drop k) = 32) := by show ¬ _; rw [hd_end t k (by omega)]; omega
      go_wp2_with fail
      go_quiet (fail)
      go_wp2_with fail
      go_end0
      exact ⟨rfl, k, x, hpk, (unhide Hr).draws _, unhide Hx, unhide Hb, unhide Hn⟩

/-- What stands behind the blanks. -/
structure Skp (t : ByteArray) (p p' : Nat) (x : List UInt8) : Prop where
  le : p ≤ p'
  eq : (L t).drop p = x ++ (L t).drop p'
  bl : Blanks x
  nb : ¬ hd ((L t).drop p') = 32

set_option maxHeartbeats 1000000 in
theorem next_any (b : Nat) (t : ByteArray) (p : Nat) (v : Value) (ps : List Pt) (w : World) (h : Rd w b t p v ps) :
    Calls Tryd.prog 95 #[.pointer (some ⟨b, 0, none⟩)] w fun e w' => ∃ p' x, e = .returned (.int .u8 (hd ((L t).drop p'))) ∧ RdR b t v w w' p' v ps ∧ Skp t p p' x := by
  have H := hide h
  have hsz := h.sz
  clear h
  go_enter Tryd.func95, Tryd.ntmps95
  go_wp2_with fail
  refine (skipBlanks_any b t p v ps _ (unhide H)).mono ?_
  rintro e w1 ⟨rfl, p', x, hp, hr, hx, hb, hn⟩
  have c0 := hr.rd.c0
  have c1 := hr.rd.c1
  have Hr := hide hr
  have Hs : Hid (Skp t p p' x) := ⟨hp, hx, hb, hn⟩
  clear hr hx hb hn hp
  by_cases hlt : p' < t.size
  · have d1 : decide ((p' : Int) < (t.size : Int)) = true := by simp; omega
    have Hh := hide (hd_drop t p' hlt)
    go_wp2_with fail
    go_quiet (fail)
    go_wp2_with fail
    go_quiet (fail)
    go_wp2_with fail
    go_ret
    exact ⟨p', x, retI (unhide Hh).symm, ((unhide Hr).draws _).draws _, unhide Hs⟩
  · have d1 : decide ((p' : Int) < (t.size : Int)) = false := by simp; omega
    have Hh := hide (hd_end t p' (by omega))
    go_wp2_with fail
    go_quiet (fail)
    go_wp2_with fail
    go_ret
    exact ⟨p', x, retI (unhide Hh).symm, (unhide Hr).draws _, unhide Hs⟩

set_option maxHeartbeats 1000000 in
theorem accept_any (b : Nat) (t : ByteArray) (p : Nat) (v : Value) (ps : List Pt) (c : Int) (w : World) (h : Rd w b t p v ps) (hc : 0 < c) :
    Calls Tryd.prog 76 #[.pointer (some ⟨b, 0, none⟩), .int .u8 c] w fun e w' => ∃ p' x, Skp t p p' x ∧
      ((¬ hd ((L t).drop p') = c ∧ e = .returned (.bool false) ∧ RdR b t v w w' p' v ps) ∨ (∃ y, (y.toNat : Int) = c ∧ (L t).drop p' = y :: (L t).drop (p' + 1) ∧ e = .returned (.bool true) ∧ RdR b t v w w' (p' + 1) v ps)) := by
  have H := hide h
  have hsz := h.sz
  clear h
  go_enter Tryd.func76, Tryd.ntmps76
  go_wp2_with fail
  refine (next_any b t p v ps _ (unhide H)).mono ?_
  rintro e w1 ⟨p', x, rfl, hr, hs⟩
  have c1 := hr.rd.c1
  have z1 := hr.rd.z1
  have hle := hr.rd.le
  have Hr := hide hr
  have Hs := hide hs
  clear hr hs
  obtain ⟨y, hy⟩ : ∃ y, hd ((L t).drop p') = y := ⟨_, rfl⟩
  rw [hy]
  have Hy := hide hy
  clear hy
  by_cases hyc : y = c
  · have e1 : (y != c) = false := by simp [hyc]
    have hlt : p' < t.size := by
      have := unhide Hy
      by_cases h : p' < t.size
      · exact h
      · rw [hd_end t p' (by omega)] at this; omega
    have Hl := hide (L_drop t p' hlt)
    have Hyc : Hid ((t[p'].toNat : Int) = c) := by show _ = _; rw [← hd_drop t p' hlt, unhide Hy, hyc]
    clear hyc
    go_wp2_with fail
    go_ret
    refine ⟨p', x, unhide Hs, .inr ⟨t[p'], unhide Hyc, unhide Hl, rfl, ?_⟩⟩
    have := (unhide Hr).move (a' := p' + 1) (by omega) (by have := (unhide Hr).rd.cnt; omega)
    simpa using this
  · have e1 : (y != c) = true := by simp [bne, hyc]
    have Hyc := hide hyc
    go_wp2_with fail
    go_ret
    exact ⟨p', x, unhide Hs, .inl ⟨by rw [unhide Hy]; exact unhide Hyc, rfl, unhide Hr⟩⟩

end Go.Proofs.YtpcdkhmahbecaaaDoor
