/- The reader: where it lies, what a call leaves of the rest; walks of skipBlanks, next. Walks of the reader: digits, day, period. Days, periods, rows of a report: how the document's spots go over them. Walks of the reader: period. Walks of the reader: periods. Walks of the reader: periods. Walks of the reader: operand. Walks of the reader: operand behind a sign (laid by genG.py). -/
import Derived.Test.YtdchbenfccofpaaGreatDoorJ01
import Derived.Deep.LoopGhost
import Derived.Test.YtdchbenfccofpaaGreatDoorJ08
namespace Go.Proofs.YtdchbenfccofpaaGreatDoor
open Go.RowKit Db

theorem retI {k : IntKind} {a b : Int} (h : a = b) : Ending.returned (.int k a) = .returned (.int k b) := by rw [h]
/-- The cells of parts. -/
def cellsP (ps : List Pt) : List Value := ps.flatMap fun p => [.int .u8 p.1, .int .i64 p.2]
theorem cellsP_append (p q : List Pt) : cellsP (p ++ q) = cellsP p ++ cellsP q := by simp [cellsP]
theorem cellsP_length (p : List Pt) : (cellsP p).length = p.length * 2 := by
  induction p with
  | nil => rfl
  | cons x t ih => simp [cellsP] at ih ⊢; omega

/-- The reader lies in block b: its text, its place, its parts. -/
structure Rd (w : World) (b : Nat) (t : ByteArray) (at_ : Nat) (v : Value) (ps : List Pt) : Prop where
  blk : Blk w b #[.string t, .int .i64 at_, v] 191
  own : w.ownsRow (b + 1) 197 2 v ps.length (cellsP ps)
  le : at_ ≤ t.size
  cnt : ps.length ≤ at_
  sz : t.size ≤ 200

/-- The blocks that the reader's calls may write. -/
def XR (b : Nat) (v : Value) (k : Nat) : Prop := k = b ∨ some k = v.ownBlock
/-- From w to w' the reader's calls have been at work. -/
structure RdR (b : Nat) (t : ByteArray) (v : Value) (w w' : World) (at_ : Nat) (v' : Value) (ps : List Pt) : Prop where
  rd : Rd w' b t at_ v' ps
  frm : Frm w.heap.size (XR b v) w w'
  own : v'.ownBlock = v.ownBlock ∨ ∀ k, v'.ownBlock = some k → w.heap.size ≤ k

theorem RdR.refl {b : Nat} {t : ByteArray} {v : Value} {w : World} {at_ : Nat} {ps : List Pt} (h : Rd w b t at_ v ps) : RdR b t v w w at_ v ps := ⟨h, Frm.refl _ _ _, .inl rfl⟩
theorem RdR.trans {b : Nat} {t : ByteArray} {v v1 v2 : Value} {w w1 w2 : World} {a1 a2 : Nat} {p1 p2 : List Pt} (h : RdR b t v w w1 a1 v1 p1) (k : RdR b t v1 w1 w2 a2 v2 p2) : RdR b t v w w2 a2 v2 p2 := by
  refine ⟨k.rd, h.frm.trans (k.frm.mono h.frm.size ?_), ?_⟩
  · intro j hj hx
    rcases hx with hx | hx
    · exact .inl hx
    · rcases h.own with e | e
      · exact .inr (by rw [← e]; exact hx)
      · have := e j hx.symm; omega
  · rcases k.own with e | e
    · rcases h.own with f | f
      · exact .inl (e.trans f)
      · exact .inr (fun j hj => f j (e ▸ hj))
    · exact .inr (fun j hj => Nat.le_trans h.frm.size (e j hj))
/-- The reader moved its place; nothing else is turned. -/
theorem Rd.move {b : Nat} {t : ByteArray} {v : Value} {w w1 : World} {a a' : Nat} {ps : List Pt} (h : Rd w b t a v ps) (hb : Below w.heap.size w w1) (ha : a' ≤ t.size) (hc : ps.length ≤ a') : RdR b t v w (w1.setCell ⟨b, 1, none⟩ (.int .i64 a')) a' v ps := by
  refine ⟨⟨?_, ?_, ha, hc, h.sz⟩, ?_, .inl rfl⟩
  · have := (h.blk.kept hb).set 1 (.int .i64 a')
    simpa using this
  · exact ownsRow_setCell_below (ownsRow_below h.own hb) (by simp) _
  · exact hb.frm.setCell (.inr (.inl rfl)) _
theorem Rd.draws {b : Nat} {t : ByteArray} {v : Value} {w : World} {a : Nat} {ps : List Pt} (h : Rd w b t a v ps) (n : Nat) : RdR b t v w (w.drewN n) a v ps :=
  ⟨⟨h.blk, h.own, h.le, h.cnt, h.sz⟩, (Frm.refl _ _ _).drewN n, .inl rfl⟩
theorem RdR.draws {b : Nat} {t : ByteArray} {v v' : Value} {w w1 : World} {a : Nat} {ps : List Pt} (h : RdR b t v w w1 a v' ps) (n : Nat) : RdR b t v w (w1.drewN n) a v' ps := h.trans (h.rd.draws n)
theorem Rd.below {b : Nat} {t : ByteArray} {v : Value} {w w1 : World} {a : Nat} {ps : List Pt} (h : Rd w b t a v ps) (hb : Below w.heap.size w w1) : RdR b t v w w1 a v ps :=
  ⟨⟨h.blk.kept hb, ownsRow_below h.own hb, h.le, h.cnt, h.sz⟩, hb.frm, .inl rfl⟩
theorem RdR.move {b : Nat} {t : ByteArray} {v v' : Value} {w w1 : World} {a a' : Nat} {ps : List Pt} (h : RdR b t v w w1 a v' ps) (ha : a' ≤ t.size) (hc : ps.length ≤ a') : RdR b t v w (w1.setCell ⟨b, 1, none⟩ (.int .i64 a')) a' v' ps := h.trans (h.rd.move (Below.refl _ _) ha hc)

/-- The three cells, as the walk wants them. -/
theorem Rd.c0 {w : World} {b : Nat} {t : ByteArray} {a : Nat} {v : Value} {ps : List Pt} (h : Rd w b t a v ps) : w.cell? ⟨b, 0, none⟩ = some (.string t) := h.blk.cell 0
theorem Rd.c1 {w : World} {b : Nat} {t : ByteArray} {a : Nat} {v : Value} {ps : List Pt} (h : Rd w b t a v ps) : w.cell? ⟨b, 1, none⟩ = some (.int .i64 a) := h.blk.cell 1
theorem Rd.c2 {w : World} {b : Nat} {t : ByteArray} {a : Nat} {v : Value} {ps : List Pt} (h : Rd w b t a v ps) : w.cell? ⟨b, 2, none⟩ = some v := h.blk.cell 2
theorem Rd.z1 {w : World} {b : Nat} {t : ByteArray} {a : Nat} {v : Value} {ps : List Pt} (h : Rd w b t a v ps) : w.frozen? ⟨b, 1, none⟩ = false := h.blk.frozen 1
theorem Rd.z2 {w : World} {b : Nat} {t : ByteArray} {a : Nat} {v : Value} {ps : List Pt} (h : Rd w b t a v ps) : w.frozen? ⟨b, 2, none⟩ = false := h.blk.frozen 2

theorem blanks_snoc (t : ByteArray) (p k : Nat) (x : List UInt8) (hk : k < t.size) (h32 : t[k].toNat = 32) (h : (L t).drop p = x ++ (L t).drop k) (hx : Blanks x) : (L t).drop p = (x ++ [t[k]]) ++ (L t).drop (k + 1) ∧ Blanks (x ++ [t[k]]) := by
  refine ⟨by rw [h, L_drop t k hk]; simp, ?_⟩
  intro c hc
  simp at hc
  rcases hc with hc | rfl
  · exact hx c hc
  · exact h32
theorem hd_drop (t : ByteArray) (k : Nat) (hk : k < t.size) : hd ((L t).drop k) = (t[k].toNat : Int) := by rw [L_drop t k hk]; rfl
theorem hd_end (t : ByteArray) (k : Nat) (hk : t.size ≤ k) : hd ((L t).drop k) = 0 := by rw [L_drop_end t k hk]; rfl

set_option maxHeartbeats 1000000 in
theorem skipBlanks_any (b : Nat) (t : ByteArray) (p : Nat) (v : Value) (ps : List Pt) (w : World) (h : Rd w b t p v ps) :
    Calls Tryz.prog 213 #[.pointer (some ⟨b, 0, none⟩)] w fun e w' => e = .returned (.tuple #[]) ∧ ∃ p' x, p ≤ p' ∧ RdR b t v w w' p' v ps ∧ (L t).drop p = x ++ (L t).drop p' ∧ Blanks x ∧ ¬ hd ((L t).drop p') = 32 := by
  have H := hide h
  have hsz := h.sz
  clear h
  go_enter Tryz.func213, Tryz.ntmps213
  go_wp2_with fail
  go_loopg [] (t.size - p) (fun m wr => ∃ k x, p ≤ k ∧ k ≤ t.size ∧ m = t.size - k ∧ Hid (RdR b t v w wr k v ps) ∧ Hid ((L t).drop p = x ++ (L t).drop k) ∧ Hid (Blanks x))
  case atStart => exact ⟨p, [], Nat.le_refl _, (unhide H).le, rfl, RdR.refl (unhide H), rfl, by intro c hc; cases hc⟩
  case round =>
    obtain ⟨k, x, hpk, hk, rfl, Hr, Hx, Hb⟩ := hrel
    have c0 := (unhide Hr).rd.c0
    have c1 := (unhide Hr).rd.c1
    have z1 := (unhide Hr).rd.z1
    by_cases hlt : k < t.size
    · have d1 : decide ((k : Int) < (t.size : Int)) = true := by simp; omega
      by_cases h32 : t[k].toNat = 32
      · have e32 : ((t[k].toNat : Int) == 32) = true := by simp; omega
        have Hs := hide (blanks_snoc t p k x hlt h32 (unhide Hx) (unhide Hb))
        go_wp2_with fail
        go_quiet (fail)
        go_wp2_with fail
        go_roundg (t.size - (k + 1))
        case measure => omega
        case rel =>
          refine ⟨k + 1, _, by omega, by omega, rfl, ?_, (unhide Hs).1, (unhide Hs).2⟩
          have := ((unhide Hr).draws nq).move (a' := k + 1) (by omega) (by have := (unhide Hr).rd.cnt; omega)
          show RdR _ _ _ _ _ _ _ _
          simpa using this
      · have e32 : ((t[k].toNat : Int) == 32) = false := by simp; omega
        have Hn : Hid (¬ hd ((L t).drop k) = 32) := by show ¬ _; rw [hd_drop t k hlt]; omega
        go_wp2_with fail
        go_quiet (fail)
        go_wp2_with fail
        go_end0
        exact ⟨rfl, k, x, hpk, (unhide Hr).draws _, unhide Hx, unhide Hb, unhide Hn⟩
    · have d1 : decide ((k : Int) < (t.size : Int)) = false := by simp; omega
      have Hn : Hid (¬ hd ((L t).drop k) = 32) := by show ¬ _; rw [hd_end t k (by omega)]; omega
      go_wp2_with fail
      go_quiet (fail)
      go_wp2_with fail
      go_end0
      exact ⟨rfl, k, x, hpk, (unhide Hr).draws _, unhide Hx, unhide Hb, unhide Hn⟩

/-- What stands behind the blanks. -/
structure Skp (t : ByteArray) (p p' : Nat) (x : List UInt8) : Prop where
  le : p ≤ p'
  eq : (L t).drop p = x ++ (L t).drop p'
  bl : Blanks x
  nb : ¬ hd ((L t).drop p') = 32

set_option maxHeartbeats 1000000 in
theorem next_any (b : Nat) (t : ByteArray) (p : Nat) (v : Value) (ps : List Pt) (w : World) (h : Rd w b t p v ps) :
    Calls Tryz.prog 197 #[.pointer (some ⟨b, 0, none⟩)] w fun e w' => ∃ p' x, e = .returned (.int .u8 (hd ((L t).drop p'))) ∧ RdR b t v w w' p' v ps ∧ Skp t p p' x := by
  have H := hide h
  have hsz := h.sz
  clear h
  go_enter Tryz.func197, Tryz.ntmps197
  go_wp2_with fail
  refine (skipBlanks_any b t p v ps _ (unhide H)).mono ?_
  rintro e w1 ⟨rfl, p', x, hp, hr, hx, hb, hn⟩
  have c0 := hr.rd.c0
  have c1 := hr.rd.c1
  have Hr := hide hr
  have Hs : Hid (Skp t p p' x) := ⟨hp, hx, hb, hn⟩
  clear hr hx hb hn hp
  by_cases hlt : p' < t.size
  · have d1 : decide ((p' : Int) < (t.size : Int)) = true := by simp; omega
    have Hh := hide (hd_drop t p' hlt)
    go_wp2_with fail
    go_quiet (fail)
    go_wp2_with fail
    go_quiet (fail)
    go_wp2_with fail
    go_ret
    exact ⟨p', x, retI (unhide Hh).symm, ((unhide Hr).draws _).draws _, unhide Hs⟩
  · have d1 : decide ((p' : Int) < (t.size : Int)) = false := by simp; omega
    have Hh := hide (hd_end t p' (by omega))
    go_wp2_with fail
    go_quiet (fail)
    go_wp2_with fail
    go_ret
    exact ⟨p', x, retI (unhide Hh).symm, (unhide Hr).draws _, unhide Hs⟩

set_option maxHeartbeats 1000000 in
theorem accept_any (b : Nat) (t : ByteArray) (p : Nat) (v : Value) (ps : List Pt) (c : Int) (w : World) (h : Rd w b t p v ps) (hc : 0 < c) :
    Calls Tryz.prog 171 #[.pointer (some ⟨b, 0, none⟩), .int .u8 c] w fun e w' => ∃ p' x, Skp t p p' x ∧
      ((¬ hd ((L t).drop p') = c ∧ e = .returned (.bool false) ∧ RdR b t v w w' p' v ps) ∨ (∃ y, (y.toNat : Int) = c ∧ (L t).drop p' = y :: (L t).drop (p' + 1) ∧ e = .returned (.bool true) ∧ RdR b t v w w' (p' + 1) v ps)) := by
  have H := hide h
  have hsz := h.sz
  clear h
  go_enter Tryz.func171, Tryz.ntmps171
  go_wp2_with fail
  refine (next_any b t p v ps _ (unhide H)).mono ?_
  rintro e w1 ⟨p', x, rfl, hr, hs⟩
  have c1 := hr.rd.c1
  have z1 := hr.rd.z1
  have hle := hr.rd.le
  have Hr := hide hr
  have Hs := hide hs
  clear hr hs
  obtain ⟨y, hy⟩ : ∃ y, hd ((L t).drop p') = y := ⟨_, rfl⟩
  rw [hy]
  have Hy := hide hy
  clear hy
  by_cases hyc : y = c
  · have e1 : (y != c) = false := by simp [hyc]
    have hlt : p' < t.size := by
      have := unhide Hy
      by_cases h : p' < t.size
      · exact h
      · rw [hd_end t p' (by omega)] at this; omega
    have Hl := hide (L_drop t p' hlt)
    have Hyc : Hid ((t[p'].toNat : Int) = c) := by show _ = _; rw [← hd_drop t p' hlt, unhide Hy, hyc]
    clear hyc
    go_wp2_with fail
    go_ret
    refine ⟨p', x, unhide Hs, .inr ⟨t[p'], unhide Hyc, unhide Hl, rfl, ?_⟩⟩
    have := (unhide Hr).move (a' := p' + 1) (by omega) (by have := (unhide Hr).rd.cnt; omega)
    simpa using this
  · have e1 : (y != c) = true := by simp [bne, hyc]
    have Hyc := hide hyc
    go_wp2_with fail
    go_ret
    exact ⟨p', x, unhide Hs, .inl ⟨by rw [unhide Hy]; exact unhide Hyc, rfl, unhide Hr⟩⟩

end Go.Proofs.YtdchbenfccofpaaGreatDoor
namespace Go.Proofs.YtdchbenfccofpaaGreatDoor
open Go.RowKit Db

/-- Digits that were read: as many as there are, but no more than m. -/
structure Dg (m : Nat) (l ds l' : List UInt8) : Prop where
  eq : l = ds ++ l'
  dig : ∀ c ∈ ds, digB c.toNat = true
  le : ds.length ≤ m
  stop : ds.length = m ∨ digB (hd l') = false

theorem valGo_snoc (l : List UInt8) (c : UInt8) : ∀ n, valGo n (l ++ [c]) = 10 * valGo n l + ((c.toNat : Int) - 48) := by
  induction l with
  | nil => intro n; rfl
  | cons x t ih => intro n; exact ih _
theorem val_snoc (l : List UInt8) (c : UInt8) : val (l ++ [c]) = 10 * val l + ((c.toNat : Int) - 48) := valGo_snoc l c 0
theorem val_lt (l : List UInt8) (h : ∀ c ∈ l, digB c.toNat = true) : val l < 10 ^ l.length := by
  have key : ∀ (l : List UInt8), (∀ c ∈ l, digB c.toNat = true) → ∀ n k : Int, 0 ≤ n → n < k → valGo n l < k * 10 ^ l.length := by
    intro l
    induction l with
    | nil => intro _ n k _ h; simpa [valGo] using h
    | cons c r ih =>
      intro hd n k h0 h
      have hc := hd c (by simp)
      simp [digB] at hc
      have := ih (fun x hx => hd x (by simp [hx])) (10 * n + ((c.toNat : Int) - 48)) (10 * k) (by omega) (by omega)
      have e : (10 * k) * 10 ^ r.length = k * 10 ^ (c :: r).length := by
        rw [List.length_cons, Int.pow_succ]
        rw [Int.mul_comm 10 k, Int.mul_assoc, Int.mul_comm 10]
      rw [← e]
      exact this
  have := key l h 0 1 (by omega) (by omega)
  rw [Int.one_mul] at this
  exact this
theorem pow_le17 (n : Nat) (h : n ≤ 17) : (10 : Int) ^ n ≤ 100000000000000000 := by
  have : ∀ k : Nat, k ≤ 17 → (10 : Int) ^ k ≤ 10 ^ 17 := by
    intro k hk
    obtain ⟨d, hd⟩ := Nat.le.dest hk
    rw [← hd, Int.pow_add]
    have h1 : (1 : Int) ≤ 10 ^ d := by
      clear hd hk
      induction d with
      | zero => simp
      | succ d ih => rw [Int.pow_succ]; omega
    have h2 : (0 : Int) ≤ 10 ^ k := by
      clear hd hk h1
      induction k with
      | zero => simp
      | succ k ih => rw [Int.pow_succ]; omega
    calc (10 : Int) ^ k = 10 ^ k * 1 := by rw [Int.mul_one]
      _ ≤ 10 ^ k * 10 ^ d := Int.mul_le_mul_of_nonneg_left h1 h2
  exact this n h
theorem dg_bound (l : List UInt8) (h : ∀ c ∈ l, digB c.toNat = true) (hl : l.length ≤ 17) : 0 ≤ val l ∧ val l ≤ 99999999999999999 := by
  have h1 := val_pos l h
  have h2 := val_lt l h
  have h3 := pow_le17 l.length hl
  omega

set_option maxHeartbeats 1000000 in
theorem digits_any (b : Nat) (t : ByteArray) (p : Nat) (v : Value) (ps : List Pt) (m : Nat) (w : World) (h : Rd w b t p v ps) (hm : m ≤ 18) :
    Calls Tryz.prog 214 #[.pointer (some ⟨b, 0, none⟩), .int .i64 (m : Int)] w fun e w' => ∃ ds p', e = .returned (.tuple #[.int .i64 (val ds), .bool (decide (0 < ds.length))]) ∧
      Dg m ((L t).drop p) ds ((L t).drop p') ∧ p' = p + ds.length ∧ RdR b t v w w' p' v ps := by
  have H := hide h
  have hsz := h.sz
  clear h
  go_enter Tryz.func214, Tryz.ntmps214
  go_wp2_with fail
  go_loopg [6, 7] (t.size - p) (fun mm n c wr => ∃ ds k, k = p + ds.length ∧ k ≤ t.size ∧ mm = t.size - k ∧ n = .int .i64 (val ds) ∧ c = .int .i64 (ds.length : Int) ∧ ds.length ≤ m ∧ Hid (RdR b t v w wr k v ps) ∧ Hid ((L t).drop p = ds ++ (L t).drop k) ∧ Hid (∀ c ∈ ds, digB c.toNat = true))
  case atStart => exact ⟨[], p, rfl, (unhide H).le, rfl, rfl, rfl, Nat.zero_le _, RdR.refl (unhide H), rfl, by intro c hc; cases hc⟩
  case round =>
    obtain ⟨ds, k, hk, hkz, rfl, rfl, rfl, hdm, Hr, Hx, Hd⟩ := hrel
    have c0 := (unhide Hr).rd.c0
    have c1 := (unhide Hr).rd.c1
    have z1 := (unhide Hr).rd.z1
    have Hk := hide hk
    clear hk
    by_cases hlm : ds.length < m
    · have d0 : decide ((ds.length : Int) < (m : Int)) = true := by simp; omega
      by_cases hlt : k < t.size
      · have d1 : decide ((k : Int) < (t.size : Int)) = true := by simp; omega
        by_cases hdig : digB (t[k].toNat : Int) = true
        · have hdd := hdig
          simp [digB] at hdd
          obtain ⟨hd1, hd2⟩ := hdd
          obtain ⟨hv0, hv1⟩ := dg_bound ds (unhide Hd) (by omega)
          have Hdig := hide hdig
          clear hdig
          go_wp2_with fail
          go_quiet (fail)
          go_wp2_with fail
          go_quiet (fail)
          go_wp2_with fail
          go_roundg (t.size - (k + 1))
          case measure => omega
          case rel =>
            refine ⟨ds ++ [t[k]], k + 1, ?_, by omega, rfl, ?_, ?_, by simp; omega, ?_, ?_, ?_⟩
            · have := unhide Hk; simp; omega
            · rw [val_snoc]; congr 1; omega
            · simp
            · have h0 := fun n => ((unhide Hr).draws n).move (a' := k + 1) (by omega) (by have := (unhide Hr).rd.cnt; omega)
              show RdR _ _ _ _ _ _ _ _
              simpa using h0 _
            · show _ = _
              rw [unhide Hx, L_drop t k hlt]; simp
            · intro c hc
              simp at hc
              rcases hc with hc | rfl
              · exact unhide Hd c hc
              · exact unhide Hdig
        · have hnd : digB (t[k].toNat : Int) = false := by simpa using hdig
          have Hst : Hid (digB (hd ((L t).drop k)) = false) := by show _ = _; rw [hd_drop t k hlt]; exact hnd
          have hcs : (t[k].toNat : Int) < 48 ∨ 57 < (t[k].toNat : Int) := by simp [digB] at hnd; omega
          clear hdig hnd
          rcases hcs with hcs | hcs
          all_goals
            go_wp2_with fail
            go_quiet (fail)
            go_wp2_with fail
            go_quiet (fail)
            go_wp2_with fail
            go_ret2
            exact ⟨ds, k, rfl, ⟨unhide Hx, unhide Hd, hdm, .inr (unhide Hst)⟩, unhide Hk, (unhide Hr).draws _⟩
      · have d1 : decide ((k : Int) < (t.size : Int)) = false := by simp; omega
        have Hst : Hid (digB (hd ((L t).drop k)) = false) := by show _ = _; rw [hd_end t k (by omega)]; rfl
        go_wp2_with fail
        go_quiet (fail)
        go_wp2_with fail
        go_ret2
        exact ⟨ds, k, rfl, ⟨unhide Hx, unhide Hd, hdm, .inr (unhide Hst)⟩, unhide Hk, (unhide Hr).draws _⟩
    · have d0 : decide ((ds.length : Int) < (m : Int)) = false := by simp; omega
      go_wp2_with fail
      go_quiet (fail)
      go_wp2_with fail
      go_ret2
      exact ⟨ds, k, rfl, ⟨unhide Hx, unhide Hd, hdm, .inl (by omega)⟩, unhide Hk, (unhide Hr).draws _⟩

set_option maxHeartbeats 1000000 in
theorem day_any (b : Nat) (t : ByteArray) (p : Nat) (v : Value) (ps : List Pt) (w : World) (h : Rd w b t p v ps) :
    Calls Tryz.prog 198 #[.pointer (some ⟨b, 0, none⟩)] w fun e w' => ∃ x ds p1 p', e = .returned (.tuple #[.int .i64 (val ds), .bool (decide (0 < ds.length))]) ∧
      Skp t p p1 x ∧ Dg 3 ((L t).drop p1) ds ((L t).drop p') ∧ p' = p1 + ds.length ∧ RdR b t v w w' p' v ps := by
  have H := hide h
  clear h
  go_enter Tryz.func198, Tryz.ntmps198
  go_wp2_with fail
  refine (skipBlanks_any b t p v ps _ (unhide H)).mono ?_
  rintro e w1 ⟨rfl, p1, x, hp, hr, hx, hb, hn⟩
  have Hr := hide hr
  have Hs : Hid (Skp t p p1 x) := ⟨hp, hx, hb, hn⟩
  clear hr hx hb hn hp
  go_wp2_with fail
  refine (digits_any b t p1 v ps 3 _ (unhide Hr).rd (by omega)).mono ?_
  rintro e w2 ⟨ds, p', rfl, hd, hpe, hr2⟩
  have Hd := hide hd
  have Hpe := hide hpe
  have Hr2 := hide ((unhide Hr).trans hr2)
  clear hd hpe hr2
  go_wp2_with fail
  go_ret2
  exact ⟨x, ds, p1, p', rfl, unhide Hs, unhide Hd, unhide Hpe, unhide Hr2⟩

end Go.Proofs.YtdchbenfccofpaaGreatDoor
namespace Db

theorem plc_d0 (a : Int) (ha : a = 0 ∨ a = 3) (l : List UInt8) : ∀ d d' o i : Int, plc a d o i l = plc a d' o i l := by
  induction l with
  | nil => intro d d' o i; rfl
  | cons c r ih =>
    intro d d' o i
    have key : ∀ e, stepS a e o c.toNat = if digB c.toNat then some (a + 1, 1, o) else if (c.toNat : Int) == 32 then some (a, e, o) else none := by
      intro e
      rcases ha with rfl | rfl
      · rw [stepS_lt (by omega)]; unfold daysS; cases h : digB c.toNat <;> cases h2 : ((c.toNat : Int) == 32) <;> simp
      · rw [stepS_lt (by omega)]; unfold daysS; cases h : digB c.toNat <;> cases h2 : ((c.toNat : Int) == 32) <;> simp
    simp only [plc, key]
    cases h : digB c.toNat
    · cases h2 : ((c.toNat : Int) == 32)
      · simp
      · simpa using ih d d' o (i + 1)
    · simp
theorem plc_dayDigits (a : Int) (ha : a = 1 ∨ a = 4) (ds : List UInt8) (h : ∀ c ∈ ds, digB c.toNat = true) : ∀ (m o i : Int) (r : List UInt8), m + ds.length ≤ 3 → plc a m o i (ds ++ r) = plc a (m + ds.length) o (i + ds.length) r := by
  induction ds with
  | nil => intro m o i r _; simp
  | cons c t ih =>
    intro m o i r hl
    simp only [List.length_cons] at hl
    have hc := h c (by simp)
    have hst : stepS a m o c.toNat = some (a, m + 1, o) := by
      rcases ha with rfl | rfl
      · rw [stepS_lt (by omega)]; unfold daysS; simp [hc, show m < 3 by omega]
      · rw [stepS_lt (by omega)]; unfold daysS; simp [hc, show m < 3 by omega]
    rw [List.cons_append, plc_step hst, ih (fun y hy => h y (by simp [hy])) _ _ _ _ (by omega)]
    simp only [List.length_cons]
    congr 1 <;> omega
/-- A day. -/
theorem plc_day (a : Int) (ha : a = 0 ∨ a = 3) (ds : List UInt8) (h : dayS ds) (d o i : Int) (r : List UInt8) : plc a d o i (ds ++ r) = plc (a + 1) ds.length o (i + ds.length) r := by
  obtain ⟨h1, h3, hd⟩ := h
  match ds, h1 with
  | c :: t, _ =>
    have hc := hd c (by simp)
    simp only [List.length_cons] at h3 ⊢
    have hst : stepS a d o c.toNat = some (a + 1, 1, o) := by
      rcases ha with rfl | rfl
      · rw [stepS_lt (by omega)]; unfold daysS; simp [hc]
      · rw [stepS_lt (by omega)]; unfold daysS; simp [hc]
    rw [List.cons_append, plc_step hst, plc_dayDigits (a + 1) (by omega) t (fun y hy => hd y (by simp [hy])) _ _ _ _ (by omega)]
    congr 1 <;> omega
theorem plc_dayNo (a : Int) (ha : a = 0 ∨ a = 3) (l : List UInt8) (h : digB (hd l) = false) (hb : ¬ hd l = 32) (d o i : Int) : plc a d o i l = i := by
  cases l with
  | nil => rcases ha with rfl | rfl <;> rfl
  | cons c r =>
    refine plc_stop ?_
    simp only [hd] at h hb
    rcases ha with rfl | rfl
    · rw [stepS_lt (by omega)]; unfold daysS; simp [h, hb]
    · rw [stepS_lt (by omega)]; unfold daysS; simp [h, hb]
/-- Blanks behind a day. -/
theorem plc_dayBlanks (a : Int) (ha : a = 1 ∨ a = 4) (x : List UInt8) (hx : Blanks x) (hn : x ≠ []) (m o i : Int) (r : List UInt8) : plc a m o i (x ++ r) = plc (a + 1) m o (i + x.length) r := by
  match x, hn with
  | c :: t, _ =>
    have hc : (c.toNat : Int) = 32 := by have := hx c (by simp); omega
    have hst : stepS a m o c.toNat = some (a + 1, m, o) := by
      rw [hc]
      rcases ha with rfl | rfl
      · rw [stepS_lt (by omega)]; unfold daysS; simp [digB]
      · rw [stepS_lt (by omega)]; unfold daysS; simp [digB]
    rw [List.cons_append, plc_step hst, plc_skip (a + 1) (by omega) t (fun y hy => hx y (by simp [hy]))]
    congr 1
    simp; omega
/-- Behind the first day: a -. -/
theorem plc_minus (x : List UInt8) (hx : Blanks x) (c : UInt8) (hc : (c.toNat : Int) = 45) (m o i : Int) (r : List UInt8) : plc 1 m o i (x ++ c :: r) = plc 3 0 o (i + x.length + 1) r := by
  have h1 : ∀ a : Int, a = 1 ∨ a = 2 → ∀ j, plc a m o j (c :: r) = plc 3 0 o (j + 1) r := by
    intro a ha j
    have hst : stepS a m o c.toNat = some (3, m, o) := by
      rw [hc]
      rcases ha with rfl | rfl
      · rw [stepS_lt (by omega)]; unfold daysS; simp [digB]
      · rw [stepS_lt (by omega)]; unfold daysS; simp [digB]
    rw [plc_step hst, plc_d0 3 (by simp) r m 0]
  by_cases hn : x = []
  · subst hn; simpa using h1 1 (by simp) i
  · rw [plc_dayBlanks 1 (by simp) x hx hn, h1 (1 + 1) (by omega)]
theorem plc_minusNo (x l : List UInt8) (hx : Blanks x) (m o i : Int) (hm : 3 ≤ m ∨ digB (hd (x ++ l)) = false) (hb : ¬ hd l = 32) (hc : ¬ hd l = 45) : plc 1 m o i (x ++ l) = i + x.length := by
  by_cases hn : x = []
  · subst hn
    simp only [List.nil_append] at hm ⊢
    cases l with
    | nil => simp [plc]
    | cons c r =>
      simp only [hd] at hm hb hc
      rw [plc_stop]
      · simp
      · rw [stepS_lt (by omega)]; unfold daysS
        rcases hm with hm | hm
        · simp [show ¬ m < 3 by omega, hb, hc]
        · simp [hm, hb, hc]
  · rw [plc_dayBlanks 1 (by simp) x hx hn]
    cases l with
    | nil => simp [plc]
    | cons c r =>
      simp only [hd] at hb hc
      refine plc_stop ?_
      rw [stepS_lt (by omega)]; unfold daysS; simp [hb, hc]
/-- Behind a period: a comma, a bar, or nothing. -/
theorem plc_comma (x : List UInt8) (hx : Blanks x) (c : UInt8) (hc : (c.toNat : Int) = 44) (m o i : Int) (r : List UInt8) : plc 4 m o i (x ++ c :: r) = plc 0 0 o (i + x.length + 1) r := by
  have h1 : ∀ a : Int, a = 4 ∨ a = 5 → ∀ j, plc a m o j (c :: r) = plc 0 0 o (j + 1) r := by
    intro a ha j
    have hst : stepS a m o c.toNat = some (0, m, o) := by
      rw [hc]
      rcases ha with rfl | rfl
      · rw [stepS_lt (by omega)]; unfold daysS; simp [digB]
      · rw [stepS_lt (by omega)]; unfold daysS; simp [digB]
    rw [plc_step hst, plc_d0 0 (by simp) r m 0]
  by_cases hn : x = []
  · subst hn; simpa using h1 4 (by simp) i
  · rw [plc_dayBlanks 4 (by simp) x hx hn, h1 (4 + 1) (by omega)]
theorem plc_bar (x : List UInt8) (hx : Blanks x) (c : UInt8) (hc : (c.toNat : Int) = 124) (m o i : Int) (r : List UInt8) : plc 4 m o i (x ++ c :: r) = plc 6 0 o (i + x.length + 1) r := by
  have h1 : ∀ a : Int, a = 4 ∨ a = 5 → ∀ j, plc a m o j (c :: r) = plc 6 0 o (j + 1) r := by
    intro a ha j
    have hst : stepS a m o c.toNat = some (6, m, o) := by
      rw [hc]
      rcases ha with rfl | rfl
      · rw [stepS_lt (by omega)]; unfold daysS; simp [digB]
      · rw [stepS_lt (by omega)]; unfold daysS; simp [digB]
    rw [plc_step hst, plc_d r 6 m 0 _ _ (by simp)]
  by_cases hn : x = []
  · subst hn; simpa using h1 4 (by simp) i
  · rw [plc_dayBlanks 4 (by simp) x hx hn, h1 (4 + 1) (by omega)]
theorem plc_barNo (x l : List UInt8) (hx : Blanks x) (m o i : Int) (hm : 3 ≤ m ∨ digB (hd (x ++ l)) = false) (hb : ¬ hd l = 32) (hc : ¬ hd l = 44) (hc2 : ¬ hd l = 124) : plc 4 m o i (x ++ l) = i + x.length := by
  by_cases hn : x = []
  · subst hn
    simp only [List.nil_append] at hm ⊢
    cases l with
    | nil => simp [plc]
    | cons c r =>
      simp only [hd] at hm hb hc hc2
      rw [plc_stop]
      · simp
      · rw [stepS_lt (by omega)]; unfold daysS
        rcases hm with hm | hm
        · simp [show ¬ m < 3 by omega, hb, hc, hc2]
        · simp [hm, hb, hc, hc2]
  · rw [plc_dayBlanks 4 (by simp) x hx hn]
    cases l with
    | nil => simp [plc]
    | cons c r =>
      simp only [hd] at hb hc hc2
      refine plc_stop ?_
      rw [stepS_lt (by omega)]; unfold daysS; simp [hb, hc, hc2]

/-- Reading a period off l. -/
def Per (l : List UInt8) (ok : Bool) (l' : List UInt8) (a b : List UInt8) : Prop :=
  ∃ x, l = x ++ l' ∧ (ok = true → dayS a ∧ dayS b ∧ bare x = a ++ 45 :: b ∧ (b.length = 3 ∨ digB (hd l') = false) ∧ ∀ o i : Int, plc 0 0 o i l = plc 4 b.length o (i + x.length) l') ∧
    (ok = false → ∀ o i : Int, plc 0 0 o i l = i + x.length)
theorem bare_digs {ds : List UInt8} (h : ∀ c ∈ ds, digB c.toNat = true) : bare ds = ds := by
  unfold bare; rw [List.filter_eq_self]; intro c hc
  have := h c hc
  simp [digB] at this
  simp; omega
theorem u8_45 {c : UInt8} (h : (c.toNat : Int) = 45) : c = 45 := UInt8.toNat_inj.1 (by simp; omega)
theorem per_no1 {x l' a b : List UInt8} (hx : Blanks x) (h : digB (hd l') = false) (hb : ¬ hd l' = 32) : Per (x ++ l') false l' a b := by
  refine ⟨x, rfl, (fun h0 => by cases h0), fun _ o i => ?_⟩
  rw [plc_skip 0 (by simp) x hx, plc_dayNo 0 (by simp) l' h hb]
theorem per_no2 {x ds y l' a b : List UInt8} (hx : Blanks x) (hd1 : dayS ds) (hst : ds.length = 3 ∨ digB (hd (y ++ l')) = false) (hy : Blanks y) (hb : ¬ hd l' = 32) (hc : ¬ hd l' = 45) : Per (x ++ (ds ++ (y ++ l'))) false l' a b := by
  refine ⟨x ++ ds ++ y, by simp, (fun h0 => by cases h0), fun _ o i => ?_⟩
  rw [plc_skip 0 (by simp) x hx, plc_day 0 (by simp) ds hd1, show (0 : Int) + 1 = 1 from rfl, plc_minusNo y l' hy _ _ _ (by rcases hst with h | h; left; omega; right; exact h) hb hc]
  simp; omega
theorem per_no3 {x ds y z l' a b : List UInt8} {c : UInt8} (hx : Blanks x) (hd1 : dayS ds) (hy : Blanks y) (hc : (c.toNat : Int) = 45) (hz : Blanks z) (h : digB (hd l') = false) (hb : ¬ hd l' = 32) : Per (x ++ (ds ++ (y ++ c :: (z ++ l')))) false l' a b := by
  refine ⟨x ++ ds ++ y ++ [c] ++ z, by simp, (fun h0 => by cases h0), fun _ o i => ?_⟩
  rw [plc_skip 0 (by simp) x hx, plc_day 0 (by simp) ds hd1, show (0 : Int) + 1 = 1 from rfl, plc_minus y hy c hc, plc_skip 3 (by simp) z hz, plc_dayNo 3 (by simp) l' h hb]
  simp; omega
theorem per_yes {x a y z b l' : List UInt8} {c : UInt8} (hx : Blanks x) (ha : dayS a) (hy : Blanks y) (hc : (c.toNat : Int) = 45) (hz : Blanks z) (hb : dayS b) (hst : b.length = 3 ∨ digB (hd l') = false) : Per (x ++ (a ++ (y ++ c :: (z ++ (b ++ l'))))) true l' a b := by
  refine ⟨x ++ a ++ y ++ [c] ++ z ++ b, by simp, fun _ => ⟨ha, hb, ?_, hst, fun o i => ?_⟩, (fun h0 => by cases h0)⟩
  · simp only [bare_append, bare_blanks hx, bare_blanks hy, bare_blanks hz, bare_digs ha.2.2, bare_digs hb.2.2, u8_45 hc]
    simp
    rfl
  · rw [plc_skip 0 (by simp) x hx, plc_day 0 (by simp) a ha, show (0 : Int) + 1 = 1 from rfl, plc_minus y hy c hc, plc_skip 3 (by simp) z hz, plc_day 3 (by simp) b hb, show (3 : Int) + 1 = 4 from rfl]
    congr 1
    simp; omega

end Db
namespace Go.Proofs.YtdchbenfccofpaaGreatDoor
open Go.RowKit Db

theorem dg_day {l ds l' : List UInt8} (h : Dg 3 l ds l') (h0 : 0 < ds.length) : dayS ds := ⟨h0, h.le, h.dig⟩
theorem dg_none {m : Nat} {l ds l' : List UInt8} (h : Dg m l ds l') (h0 : ¬ 0 < ds.length) (hm : 0 < m) : digB (hd l') = false ∧ l = l' := by
  have hz : ds = [] := by cases ds with | nil => rfl | cons => simp at h0
  subst hz
  refine ⟨?_, h.eq⟩
  rcases h.stop with h | h
  · simp at h; omega
  · exact h

theorem Rd.fresh {w : World} {b : Nat} {t : ByteArray} {a : Nat} {v : Value} {ps : List Pt} (h : Rd w b t a v ps) : ∀ j, w.heap.size ≤ j → ¬ XR b v j := by
  rintro j hj (rfl | e)
  · have := h.blk.lt; omega
  · have := (h.own.lt j e.symm).2; omega
theorem ownsRow_setOther {w : World} {base : Nat} {e : TypeId} {size : Nat} {v : Value} {n : Nat} {xs : List Value} (h : w.ownsRow base e size v n xs) {a : Addr} (ha : some a.block ≠ v.ownBlock) (u : Value) : (w.setCell a u).ownsRow base e size v n xs := by
  refine ⟨h.1, ?_⟩
  rcases h.2 with hn | ⟨g, cap, cur, rfl, hbg, hgg, rest⟩
  · exact .inl hn
  · exact .inr ⟨g, cap, cur, rfl, hbg, by rw [Below.heap_setCell _ _ _ _ (fun e => ha (by rw [← e]; rfl))]; exact hgg, rest⟩
theorem RdR.localSet {b : Nat} {t : ByteArray} {v v' : Value} {w w1 : World} {a : Nat} {ps : List Pt} (h : RdR b t v w w1 a v' ps) {j : Nat} (hj : w.heap.size ≤ j) (hx : ¬ XR b v' j) (i : Nat) (u : Value) : RdR b t v w (w1.setCell ⟨j, i, none⟩ u) a v' ps :=
  ⟨⟨h.rd.blk.setOther _ _ (fun e => hx (.inl e.symm)), ownsRow_setOther h.rd.own (fun e => hx (.inr e)) _, h.rd.le, h.rd.cnt, h.rd.sz⟩, h.frm.setCell (.inl hj) _, h.own⟩

set_option maxHeartbeats 2000000 in
theorem period_any (b : Nat) (t : ByteArray) (p : Nat) (v : Value) (ps : List Pt) (w : World) (h : Rd w b t p v ps) :
    Calls Tryz.prog 172 #[.pointer (some ⟨b, 0, none⟩)] w fun e w' => ∃ ok x y p' da db, e = .returned (.tuple #[.agg #[.int .i64 x, .int .i64 y], .bool ok]) ∧
      Per ((L t).drop p) ok ((L t).drop p') da db ∧ (ok = true → x = val da ∧ y = val db) ∧ p ≤ p' ∧ RdR b t v w w' p' v ps := by
  have Hfr := hide h.fresh
  have H0 := hide (h.below ((Below.refl _ _).alloc (Nat.le_refl _) (.cells #[.int .i64 0, .int .i64 0] 177)))
  clear h
  go_enter Tryz.func172, Tryz.ntmps172
  go_wp2_with fail
  refine (day_any b t p v ps _ (unhide H0).rd).mono ?_
  rintro e w1 ⟨x1, d1, q1, p1, rfl, hs1, hg1, he1, hr1⟩
  have HB1 : Hid (Blk w1 w.heap.size #[.int .i64 0, .int .i64 0] 177) := (Blk.new _ _ _).frm hr1.frm (by simp) (unhide Hfr _ (Nat.le_refl _))
  have H1 := hide ((unhide H0).trans hr1)
  have Hs1 := hide hs1
  have Hg1 := hide hg1
  have He1 := hide he1
  have c0 := (unhide HB1).cell 0
  have c1 := (unhide HB1).cell 1
  have z0 := (unhide HB1).frozen 0
  have z1 := (unhide HB1).frozen 1
  simp only [List.getElem?_toArray, List.getElem?_cons_zero, List.getElem?_cons_succ] at c0 c1
  clear hs1 hg1 he1 hr1
  by_cases hd1 : 0 < d1.length
  · have e1 : decide (0 < d1.length) = true := decide_eq_true hd1
    rw [e1]
    clear e1
    have Hd1 := hide (dg_day (unhide Hg1) hd1)
    clear hd1
    go_wp2_with fail
    refine (accept_any b t p1 v ps 45 _ (unhide H1).rd (by omega)).mono ?_
    rintro e w2 ⟨p2, x2, hs2, ⟨hn2, rfl, hr2⟩ | ⟨y2, hy2, hl2, rfl, hr2⟩⟩
    · have HB2 := hide ((unhide HB1).frm hr2.frm (unhide HB1).lt (unhide Hfr _ (Nat.le_refl _)))
      have H2 := hide ((unhide H1).trans hr2)
      have Hs2 := hide hs2
      have Hn2 := hide hn2
      have c0 := (unhide HB2).cell 0
      have c1 := (unhide HB2).cell 1
      have z0 := (unhide HB2).frozen 0
      have z1 := (unhide HB2).frozen 1
      simp only [List.getElem?_toArray, List.getElem?_cons_zero, List.getElem?_cons_succ] at c0 c1
      clear hs2 hn2 hr2
      go_wp2_with fail
      refine bodyPost_ret (v := .tuple #[.agg #[.int .i64 0, .int .i64 0], .bool false]) (by simp [results, Tryz.results172, go_sem, c0, c1]) rfl ⟨false, 0, 0, p2, [], [], rfl, ?_, (fun h0 => by cases h0), ?_, ?_⟩
      · rw [(unhide Hs1).eq, (unhide Hg1).eq, (unhide Hs2).eq]
        exact per_no2 (unhide Hs1).bl (unhide Hd1) (by rw [← (unhide Hs2).eq]; exact (unhide Hg1).stop) (unhide Hs2).bl (unhide Hs2).nb (unhide Hn2)
      · have h1 := (unhide Hs1).le; have h2 := unhide He1; have h3 := (unhide Hs2).le; omega
      · exact ((unhide H2).localSet (Nat.le_refl _) (unhide Hfr _ (Nat.le_refl _)) _ _).localSet (Nat.le_refl _) (unhide Hfr _ (Nat.le_refl _)) _ _
    · have HB2 := hide ((unhide HB1).frm hr2.frm (unhide HB1).lt (unhide Hfr _ (Nat.le_refl _)))
      have H2 := hide ((unhide H1).trans hr2)
      have Hs2 := hide hs2
      have Hy2 := hide hy2
      have Hl2 := hide hl2
      clear hs2 hr2 hy2 hl2 c0 c1 z0 z1
      go_wp2_with fail
      refine (day_any b t (p2 + 1) v ps _ (unhide H2).rd).mono ?_
      rintro e w3 ⟨x3, d3, q3, p3, rfl, hs3, hg3, he3, hr3⟩
      have HB3 := hide ((unhide HB2).frm hr3.frm (unhide HB2).lt (unhide Hfr _ (Nat.le_refl _)))
      have H3 := hide ((unhide H2).trans hr3)
      have Hs3 := hide hs3
      have Hg3 := hide hg3
      have He3 := hide he3
      have c0 := (unhide HB3).cell 0
      have c1 := (unhide HB3).cell 1
      have z0 := (unhide HB3).frozen 0
      have z1 := (unhide HB3).frozen 1
      simp only [List.getElem?_toArray, List.getElem?_cons_zero, List.getElem?_cons_succ] at c0 c1
      clear hs3 hg3 he3 hr3
      have Hle : Hid (p ≤ p3) := by
        have h1 := (unhide Hs1).le; have h2 := unhide He1; have h3 := (unhide Hs2).le; have h4 := (unhide Hs3).le; have h5 := unhide He3
        show _ ≤ _
        omega
      by_cases hd3 : 0 < d3.length
      · have e1 : decide (0 < d3.length) = true := decide_eq_true hd3
        rw [e1]
        clear e1
        have Hd3 := hide (dg_day (unhide Hg3) hd3)
        clear hd3
        go_wp2_with fail
        refine bodyPost_ret (v := .tuple #[.agg #[.int .i64 (val d1), .int .i64 (val d3)], .bool true]) (by simp [results, Tryz.results172, go_sem, c0, c1]) rfl ⟨true, _, _, p3, d1, d3, rfl, ?_, fun _ => ⟨rfl, rfl⟩, unhide Hle, ?_⟩
        · rw [(unhide Hs1).eq, (unhide Hg1).eq, (unhide Hs2).eq, unhide Hl2, (unhide Hs3).eq, (unhide Hg3).eq]
          exact per_yes (unhide Hs1).bl (unhide Hd1) (unhide Hs2).bl (unhide Hy2) (unhide Hs3).bl (unhide Hd3) (unhide Hg3).stop
        · exact ((unhide H3).localSet (Nat.le_refl _) (unhide Hfr _ (Nat.le_refl _)) _ _).localSet (Nat.le_refl _) (unhide Hfr _ (Nat.le_refl _)) _ _
      · have e1 : decide (0 < d3.length) = false := decide_eq_false hd3
        rw [e1]
        clear e1
        have Hz := hide (dg_none (m := 3) (unhide Hg3) hd3 (by omega))
        clear hd3
        go_wp2_with fail
        refine bodyPost_ret (v := .tuple #[.agg #[.int .i64 0, .int .i64 0], .bool false]) (by simp [results, Tryz.results172, go_sem, c0, c1]) rfl ⟨false, 0, 0, p3, [], [], rfl, ?_, (fun h0 => by cases h0), unhide Hle, ?_⟩
        · rw [(unhide Hs1).eq, (unhide Hg1).eq, (unhide Hs2).eq, unhide Hl2, (unhide Hs3).eq, (unhide Hz).2]
          exact per_no3 (unhide Hs1).bl (unhide Hd1) (unhide Hs2).bl (unhide Hy2) (unhide Hs3).bl (unhide Hz).1 (by rw [← (unhide Hz).2]; exact (unhide Hs3).nb)
        · exact ((unhide H3).localSet (Nat.le_refl _) (unhide Hfr _ (Nat.le_refl _)) _ _).localSet (Nat.le_refl _) (unhide Hfr _ (Nat.le_refl _)) _ _
  · have e1 : decide (0 < d1.length) = false := decide_eq_false hd1
    rw [e1]
    clear e1
    have Hz := hide (dg_none (m := 3) (unhide Hg1) hd1 (by omega))
    clear hd1
    go_wp2_with fail
    refine bodyPost_ret (v := .tuple #[.agg #[.int .i64 0, .int .i64 0], .bool false]) (by simp [results, Tryz.results172, go_sem, c0, c1]) rfl ⟨false, 0, 0, p1, [], [], rfl, ?_, (fun h0 => by cases h0), ?_, ?_⟩
    · rw [(unhide Hs1).eq, (unhide Hz).2]
      exact per_no1 (unhide Hs1).bl (unhide Hz).1 (by rw [← (unhide Hz).2]; exact (unhide Hs1).nb)
    · have h1 := (unhide Hs1).le; have h2 := unhide He1; omega
    · exact ((unhide H1).localSet (Nat.le_refl _) (unhide Hfr _ (Nat.le_refl _)) _ _).localSet (Nat.le_refl _) (unhide Hfr _ (Nat.le_refl _)) _ _

end Go.Proofs.YtdchbenfccofpaaGreatDoor
namespace Db

/-- Some periods have been read, each with its comma. -/
structure PerSt (l l' : List UInt8) (pd : List (List UInt8 × List UInt8)) : Prop where
  ex : ∃ x, l = x ++ l' ∧ (∀ i : Int, plc 0 0 0 i l = plc 0 0 0 (i + x.length) l') ∧ (∀ r, split (bare x ++ r) 44 = pd.map (fun p => p.1 ++ 45 :: p.2) ++ split r 44) ∧ ∀ c ∈ bare x, ¬ c.toNat = 124
  days : ∀ p ∈ pd, dayS p.1 ∧ dayS p.2
/-- All periods have been read, and the bar. -/
structure PerEnd (l : List UInt8) (ok : Bool) (l' : List UInt8) (pd : List (List UInt8 × List UInt8)) : Prop where
  ex : ∃ x, l = x ++ l' ∧ (ok = true → (∀ i : Int, plc 0 0 0 i l = plc 6 0 0 (i + x.length) l') ∧ ∃ y, bare x = y ++ [124] ∧ split y 44 = pd.map (fun p => p.1 ++ 45 :: p.2) ∧ ∀ c ∈ y, ¬ c.toNat = 124) ∧
    (ok = false → ∀ i : Int, plc 0 0 0 i l = i + x.length)
  days : ok = true → ∀ p ∈ pd, dayS p.1 ∧ dayS p.2

theorem PerSt.start (l : List UInt8) : PerSt l l [] := ⟨⟨[], rfl, fun i => by simp, fun r => by simp [bare], by simp [bare]⟩, by simp⟩
theorem seg_ne {a b : List UInt8} (ha : dayS a) (hb : dayS b) (k : UInt8) (hk : digB k.toNat = false) (h45 : ¬ k = 45) : ∀ c ∈ a ++ 45 :: b, c ≠ k := by
  intro c hc
  rw [List.mem_append, List.mem_cons] at hc
  rcases hc with hc | rfl | hc
  · exact dayS_ne ha k hk c hc
  · exact fun e => h45 e.symm
  · exact dayS_ne hb k hk c hc
theorem seg_124 {a b : List UInt8} (ha : dayS a) (hb : dayS b) : ∀ c ∈ a ++ 45 :: b, ¬ c.toNat = 124 := by
  intro c hc h
  exact seg_ne ha hb 124 rfl (by decide) c hc (UInt8.toNat_inj.1 (by rw [h]; rfl))
theorem u8_44 {c : UInt8} (h : (c.toNat : Int) = 44) : c = 44 := UInt8.toNat_inj.1 (by simp; omega)
theorem u8_124 {c : UInt8} (h : (c.toNat : Int) = 124) : c = 124 := UInt8.toNat_inj.1 (by simp; omega)

theorem PerSt.no {l l1 l' : List UInt8} {pd : List (List UInt8 × List UInt8)} {a b : List UInt8} (h : PerSt l l1 pd) (hp : Per l1 false l' a b) (pd' : List (List UInt8 × List UInt8)) : PerEnd l false l' pd' := by
  obtain ⟨x, rfl, h1, h2, h3⟩ := h.ex
  obtain ⟨y, rfl, g1, g2⟩ := hp
  refine ⟨⟨x ++ y, by simp, (fun h0 => by cases h0), fun _ i => ?_⟩, (fun h0 => by cases h0)⟩
  rw [h1, g2 rfl]; simp; omega
theorem PerSt.comma {l l1 y r : List UInt8} {pd : List (List UInt8 × List UInt8)} {a b : List UInt8} {c : UInt8} (h : PerSt l l1 pd) (hp : Per l1 true (y ++ c :: r) a b) (hy : Blanks y) (hc : (c.toNat : Int) = 44) : PerSt l r (pd ++ [(a, b)]) := by
  obtain ⟨x, rfl, h1, h2, h3⟩ := h.ex
  obtain ⟨z, rfl, g1, g2⟩ := hp
  obtain ⟨ha, hb, hbare, hst, hplc⟩ := g1 rfl
  refine ⟨⟨x ++ z ++ y ++ [c], by simp, fun i => ?_, fun q => ?_, ?_⟩, ?_⟩
  · rw [h1, hplc, plc_comma y hy c hc]
    congr 1
    simp; omega
  · simp only [bare_append, hbare, bare_blanks hy, u8_44 hc, List.append_nil]
    rw [show bare [44] = [44] from rfl]
    simp only [List.append_assoc]
    rw [h2]
    rw [show (a ++ ((45 :: b) ++ ([44] ++ q))) = (a ++ 45 :: b) ++ 44 :: q by simp, split_cons 44 _ q (seg_ne ha hb 44 rfl (by decide))]
    simp
  · intro k hk
    simp only [bare_append, hbare, bare_blanks hy, u8_44 hc, List.append_nil, List.mem_append] at hk
    rcases hk with (hk | hk) | hk
    · exact h3 k hk
    · exact seg_124 ha hb k (by simpa using hk)
    · rw [show bare [44] = [44] from rfl] at hk
      simp at hk; subst hk; decide
  · intro p hp
    simp at hp
    rcases hp with hp | rfl
    · exact h.days p hp
    · exact ⟨ha, hb⟩
theorem PerSt.bar {l l1 y r : List UInt8} {pd : List (List UInt8 × List UInt8)} {a b : List UInt8} {c : UInt8} (h : PerSt l l1 pd) (hp : Per l1 true (y ++ c :: r) a b) (hy : Blanks y) (hc : (c.toNat : Int) = 124) : PerEnd l true r (pd ++ [(a, b)]) := by
  obtain ⟨x, rfl, h1, h2, h3⟩ := h.ex
  obtain ⟨z, rfl, g1, g2⟩ := hp
  obtain ⟨ha, hb, hbare, hst, hplc⟩ := g1 rfl
  refine ⟨⟨x ++ z ++ y ++ [c], by simp, fun _ => ⟨fun i => ?_, bare x ++ (a ++ 45 :: b), ?_, ?_, ?_⟩, (fun h0 => by cases h0)⟩, ?_⟩
  · rw [h1, hplc, plc_bar y hy c hc]
    congr 1
    simp; omega
  · simp only [bare_append, hbare, bare_blanks hy, u8_124 hc, List.append_nil]
    rw [show bare [124] = [124] from rfl]
  · rw [h2, split_one 44 _ (seg_ne ha hb 44 rfl (by decide))]
    simp
  · intro k hk
    rw [List.mem_append] at hk
    rcases hk with hk | hk
    · exact h3 k hk
    · exact seg_124 ha hb k hk
  · intro _ p hp
    simp at hp
    rcases hp with hp | rfl
    · exact h.days p hp
    · exact ⟨ha, hb⟩
theorem PerSt.nobar {l l1 y l' : List UInt8} {pd : List (List UInt8 × List UInt8)} {a b : List UInt8} (h : PerSt l l1 pd) (hp : Per l1 true (y ++ l') a b) (hy : Blanks y) (h32 : ¬ hd l' = 32) (h44 : ¬ hd l' = 44) (h124 : ¬ hd l' = 124) (pd' : List (List UInt8 × List UInt8)) : PerEnd l false l' pd' := by
  obtain ⟨x, rfl, h1, h2, h3⟩ := h.ex
  obtain ⟨z, rfl, g1, g2⟩ := hp
  obtain ⟨ha, hb, hbare, hst, hplc⟩ := g1 rfl
  refine ⟨⟨x ++ z ++ y, by simp, (fun h0 => by cases h0), fun _ i => ?_⟩, (fun h0 => by cases h0)⟩
  rw [h1, hplc, plc_barNo y l' hy _ _ _ (by rcases hst with h | h; left; omega; right; exact h) h32 h44 h124]
  simp; omega

end Db
namespace Go.Proofs.YtdchbenfccofpaaGreatDoor
open Go.RowKit Db

theorem RdR.alloc {b : Nat} {t : ByteArray} {v v' : Value} {w w1 : World} {a : Nat} {ps : List Pt} (h : RdR b t v w w1 a v' ps) (o : Obj) : RdR b t v w (w1.alloc o) a v' ps :=
  h.trans (h.rd.below ((Below.refl _ _).alloc (Nat.le_refl _) o))
theorem RdR.grown {b : Nat} {t : ByteArray} {v v' : Value} {w w1 w2 : World} {a : Nat} {ps : List Pt} {row : Option Nat} (h : RdR b t v w w1 a v' ps) (hg : w1.grownBy w2 row) (hr : ∀ k, row = some k → w.heap.size ≤ k ∧ ¬ XR b v' k) : RdR b t v w w2 a v' ps := by
  refine ⟨⟨h.rd.blk.grown hg ?_, h.rd.own.kept hg ?_, h.rd.le, h.rd.cnt, h.rd.sz⟩, h.frm.grown hg h.frm.size (fun k hk => .inl (hr k hk).1), h.own⟩
  · intro e; exact (hr b e.symm).2 (.inl rfl)
  · cases hv : v'.ownBlock with
    | none => exact .inl rfl
    | some k => exact .inr (fun e => (hr k e.symm).2 (.inr hv.symm))

theorem cell_two_new' (w : World) (n : Nat) (hn : n = w.heap.size) (x y : Value) (t : TypeId) : ∀ j u, [x, y][j]? = some u → (w.alloc (.cells #[x, y] t)).cell? ((⟨n, 0, none⟩ : Addr).add j) = some u := by
  subst hn; exact cell_two_new w x y t
def cellsD (pd : List (List UInt8 × List UInt8)) : List Value := pd.flatMap fun p => [.int .i64 (val p.1), .int .i64 (val p.2)]
theorem cellsD_append (p q : List (List UInt8 × List UInt8)) : cellsD (p ++ q) = cellsD p ++ cellsD q := by simp [cellsD]
theorem info_period : (Tryz.prog.info? 177).map (fun i => (i.zero, i.size, i.bytes)) = some (some (.agg #[.int .i64 0, .int .i64 0]), 2, 16) := by kernel_rfl

theorem per_lt {t : ByteArray} {k k1 : Nat} {a b : List UInt8} (h : Per ((L t).drop k) true ((L t).drop k1) a b) (hk : k ≤ t.size) (hk1 : k1 ≤ t.size) : k < k1 := by
  obtain ⟨x, hx, h1, _⟩ := h
  have hb := (h1 rfl).2.2.1
  have hl := congrArg List.length hx
  simp only [List.length_append, List.length_drop, L_length] at hl
  have hn : 0 < x.length := by
    cases x with
    | nil => exact absurd hb (by simp [bare])
    | cons => simp
  omega
/-- Where no blank stands nothing is passed over. -/
theorem skp_same {t : ByteArray} {p p' : Nat} {x : List UInt8} (h : Skp t p p' x) (hb : ¬ hd ((L t).drop p) = 32) : (L t).drop p = (L t).drop p' := by
  have he := h.eq
  match x, h.bl with
  | [], _ => simpa using he
  | c :: r, hbl =>
    rw [he] at hb
    exact absurd (by have := hbl c (by simp); simp [hd]; omega) hb

/-- Where the loop over the periods stands. -/
def PLoop (l : List UInt8) (more : Bool) (l' : List UInt8) (pd : List (List UInt8 × List UInt8)) : Prop :=
  (more = true → PerSt l l' pd) ∧ (more = false → ∃ l1 pd0 a b y, PerSt l l1 pd0 ∧ Per l1 true (y ++ l') a b ∧ Blanks y ∧ ¬ hd l' = 32 ∧ ¬ hd l' = 44 ∧ pd = pd0 ++ [(a, b)])

set_option maxRecDepth 100000 in
set_option maxHeartbeats 2000000 in
theorem periods_any (b : Nat) (t : ByteArray) (p : Nat) (v : Value) (ps : List Pt) (w : World) (h : Rd w b t p v ps) :
    Calls Tryz.prog 127 #[.pointer (some ⟨b, 0, none⟩)] w fun e w' => ∃ ok vp p' pd, e = .returned (.tuple #[vp, .bool ok]) ∧ PerEnd ((L t).drop p) ok ((L t).drop p') pd ∧
      (ok = true → w'.ownsRow w.heap.size 177 2 vp pd.length (cellsD pd)) ∧ (ok = false → vp = .slice none 0 0) ∧ p ≤ p' ∧ RdR b t v w w' p' v ps := by
  obtain ⟨ii, hi, hz0, hz1, hz2⟩ := info_parts info_period
  have hsz := h.sz
  have Hfr := hide h.fresh
  have H := hide h
  clear h
  go_enter Tryz.func127, Tryz.ntmps127
  go_wp2_with fail
  go_loopg [4, 5] (2 * (t.size - p) + 1) (fun m vp mo wr => ∃ k, ∃ more : Bool, ∃ pd, p ≤ k ∧ k ≤ t.size ∧ m = 2 * (t.size - k) + (if more then 1 else 0) ∧ mo = .bool more ∧ pd.length ≤ k ∧ Hid (PLoop ((L t).drop p) more ((L t).drop k) pd) ∧
      Hid (wr.ownsRow w.heap.size 177 2 vp pd.length (cellsD pd)) ∧ Hid (RdR b t v w wr k v ps))
  case atStart => exact ⟨p, true, [], Nat.le_refl _, (unhide H).le, rfl, rfl, Nat.zero_le _, ⟨fun _ => PerSt.start _, (fun h0 => by cases h0)⟩, World.ownsRow_nil _ _ _ _, RdR.refl (unhide H)⟩
  case round =>
    obtain ⟨k, more, pd, hpk, hk, rfl, rfl, hpl, Hl, Ho, Hr⟩ := hrel
    have hwr := (unhide Hr).frm.size
    obtain ⟨aop, capp, hvp⟩ := ownsRow_form (unhide Ho)
    subst hvp
    cases more with
    | true =>
      go_wp2_with fail
      refine (period_any b t k v ps _ (unhide Hr).rd).mono ?_
      rintro e w1 ⟨ok, x, y, k1, da, db, rfl, hper, hval, hle, hr1⟩
      have H1 := hide ((unhide Hr).trans hr1)
      have Ho1 := hide (ownsRow_frm (unhide Ho) hr1.frm (fun j hj => ⟨((unhide Ho).lt j hj).2, unhide Hfr j ((unhide Ho).lt j hj).1⟩))
      have hk1 := hr1.rd.le
      have Hper := hide hper
      clear hr1 hper
      cases ok with
      | false =>
        clear hval
        go_wp2_with fail
        go_ret2
        exact ⟨false, _, k1, [], rfl, ((unhide Hl).1 rfl).no (unhide Hper) [], (fun h0 => by cases h0), fun _ => rfl, by omega, (unhide H1).alloc _⟩
      | true =>
        obtain ⟨rfl, rfl⟩ := hval rfl
        clear hval
        have hsz1 := (unhide H1).frm.size
        go_wp2_with (first
          | (at_builtin; refine wpList_append_own_at _ rfl (.tmp 18) (.tmp 20) 107 rfl w.heap.size 177 ii (.agg #[.int .i64 0, .int .i64 0]) 2 16 Tryz.underlying107 hi hz0 hz1 hz2 rfl (by decide) (.slice aop pd.length capp) pd.length _ rfl (((unhide Ho1).alloc _).alloc _) ⟨w1.heap.size + 1, 0, none⟩ 1 1 [.int .i64 (val da), .int .i64 (val db)] rfl rfl (cell_two_new' _ _ (by simp) _ _ _) (fun x hx => by simp at hx; rcases hx with rfl | rfl <;> rfl) (by unfold maxLen; omega) (by omega) (by simp; omega) ?_; intro vp' w5 hown5 hgr5 _ hat5; obtain ⟨gf, cf, rfl, hgf, hgf'⟩ := ownsRow_some hown5 (Nat.succ_pos _)))
        have Ho5 : Hid (w5.ownsRow w.heap.size 177 2 (.slice (some ⟨gf, 0, none⟩) (pd.length + 1) cf) (pd ++ [(da, db)]).length (cellsD (pd ++ [(da, db)]))) := by
          show World.ownsRow _ _ _ _ _ _ _
          rw [cellsD_append]
          simpa [cellsD] using hown5
        have H5 := hide ((((unhide H1).alloc _).alloc _).grown hgr5 (fun j hj => ⟨((unhide Ho1).lt j hj).1, unhide Hfr j ((unhide Ho1).lt j hj).1⟩))
        have Hl1 := hide ((unhide Hl).1 rfl)
        clear hown5 hgr5 hat5
        go_wp2_with fail
        refine (accept_any b t k1 v ps 44 _ (unhide H5).rd (by omega)).mono ?_
        rintro e w6 ⟨k2, x2, hs2, ⟨hn2, rfl, hr2⟩ | ⟨y2, hy2, hl2, rfl, hr2⟩⟩
        · have H6 := hide ((unhide H5).trans hr2)
          have Ho6 := hide (ownsRow_frm (unhide Ho5) hr2.frm (fun j hj => ⟨((unhide Ho5).lt j hj).2, unhide Hfr j ((unhide Ho5).lt j hj).1⟩))
          have hk2 := hr2.rd.le
          have Hs2 := hide hs2
          have Hn2 := hide hn2
          clear hs2 hn2 hr2
          go_wp2_with fail
          have hle2 := (unhide Hs2).le
          go_roundg (2 * (t.size - k2) + 0)
          case measure => simp; omega
          case rel =>
            refine ⟨k2, false, pd ++ [(da, db)], by omega, hk2, by simp, rfl, ?_, ⟨(fun h0 => by cases h0), fun _ => ⟨_, pd, da, db, x2, unhide Hl1, by rw [← (unhide Hs2).eq]; exact unhide Hper, (unhide Hs2).bl, (unhide Hs2).nb, unhide Hn2, rfl⟩⟩, unhide Ho6, unhide H6⟩
            have := per_lt (unhide Hper) hk hk1
            simp; omega
        · have H6 := hide ((unhide H5).trans hr2)
          have Ho6 := hide (ownsRow_frm (unhide Ho5) hr2.frm (fun j hj => ⟨((unhide Ho5).lt j hj).2, unhide Hfr j ((unhide Ho5).lt j hj).1⟩))
          have hk2 := hr2.rd.le
          have Hs2 := hide hs2
          have Hy2 := hide hy2
          have Hl2 := hide hl2
          clear hs2 hy2 hl2 hr2
          go_wp2_with fail
          have hle2 := (unhide Hs2).le
          go_roundg (2 * (t.size - (k2 + 1)) + 1)
          case measure => simp; omega
          case rel =>
            refine ⟨k2 + 1, true, pd ++ [(da, db)], by omega, hk2, by simp, rfl, by simp; omega, ⟨fun _ => (unhide Hl1).comma (c := y2) (y := x2) (by rw [← unhide Hl2, ← (unhide Hs2).eq]; exact unhide Hper) (unhide Hs2).bl (unhide Hy2), (fun h0 => by cases h0)⟩, unhide Ho6, unhide H6⟩
    | false =>
      obtain ⟨l1, pd0, da, db, y, hst, hper, hy, h32, h44, rfl⟩ := (unhide Hl).2 rfl
      have Hst := hide hst
      have Hper := hide hper
      have Hy := hide hy
      have H32 := hide h32
      have H44 := hide h44
      clear hst hper hy h32 h44
      go_wp2_with fail
      refine (accept_any b t k v ps 124 _ (unhide Hr).rd (by omega)).mono ?_
      rintro e w6 ⟨k2, x2, hs2, ⟨hn2, rfl, hr2⟩ | ⟨y2, hy2, hl2, rfl, hr2⟩⟩
      · have H6 := hide ((unhide Hr).trans hr2)
        have Hs2 := hide hs2
        have Hn2 := hide hn2
        clear hs2 hn2 hr2
        go_wp2_with fail
        go_ret2
        have hz := skp_same (unhide Hs2) (unhide H32)
        refine ⟨false, _, k2, [], rfl, ?_, (fun h0 => by cases h0), fun _ => rfl, by have := (unhide Hs2).le; omega, unhide H6⟩
        rw [hz] at Hper H32 H44
        exact (unhide Hst).nobar (unhide Hper) (unhide Hy) (unhide H32) (unhide H44) (unhide Hn2) []
      · have H6 := hide ((unhide Hr).trans hr2)
        have Ho6 := hide (ownsRow_frm (unhide Ho) hr2.frm (fun j hj => ⟨((unhide Ho).lt j hj).2, unhide Hfr j ((unhide Ho).lt j hj).1⟩))
        have Hs2 := hide hs2
        have Hy2 := hide hy2
        have Hl2 := hide hl2
        clear hs2 hy2 hl2 hr2
        go_wp2_with fail
        go_ret2
        have hz := skp_same (unhide Hs2) (unhide H32)
        refine ⟨true, .slice aop (pd0.length + 1) capp, k2 + 1, pd0 ++ [(da, db)], rfl, ?_, fun _ => (by have := unhide Ho6; simpa using this), (fun h0 => by cases h0), by have := (unhide Hs2).le; omega, unhide H6⟩
        rw [hz, unhide Hl2] at Hper
        exact (unhide Hst).bar (unhide Hper) (unhide Hy) (unhide Hy2)

end Go.Proofs.YtdchbenfccofpaaGreatDoor
namespace Go.Proofs.YtdchbenfccofpaaGreatDoor
open Go.RowKit Db

theorem info_part : (Tryz.prog.info? 197).map (fun i => (i.zero, i.size, i.bytes)) = some (some (.agg #[.int .u8 0, .int .i64 0]), 2, 16) := by kernel_rfl

theorem own_ne' {w : World} {B : Nat} {e : TypeId} {size : Nat} {v : Value} {n : Nat} {xs : List Value} (h : w.ownsRow B e size v n xs) {b : Nat} (hb : b < B) : some b ≠ v.ownBlock :=
  fun e => by have := (h.lt b e.symm).1; omega
/-- One part more. -/
theorem RdR.push {b : Nat} {t : ByteArray} {v v1 v2 : Value} {w W w5 : World} {a : Nat} {ps : List Pt} (h : RdR b t v w W a v1 ps) (o : Obj) (s n : Int)
    (hown : w5.ownsRow (b + 1) 197 2 v2 (ps.length + 1) (cellsP ps ++ [.int .u8 s, .int .i64 n])) (hgr : (W.alloc o).grownBy w5 v1.ownBlock)
    (hat : v2.ownBlock = v1.ownBlock ∨ v2.ownBlock = some (W.alloc o).heap.size) (hc : ps.length + 1 ≤ a) : RdR b t v w (w5.setCell ⟨b, 2, none⟩ v2) a v2 (ps ++ [(s, n)]) := by
  have hne : some b ≠ v1.ownBlock := fun e => by have := (h.rd.own.lt b e.symm).1; omega
  refine h.trans ⟨⟨?_, ?_, h.rd.le, by simpa using hc, h.rd.sz⟩, ?_, ?_⟩
  · have := ((h.rd.blk.alloc o).grown hgr hne).set 2 v2
    simpa using this
  · rw [cellsP_append]
    have := ownsRow_setCell_below hown (a := ⟨b, 2, none⟩) (by simp) v2
    simpa [cellsP] using this
  · exact (((Frm.refl _ _ _).alloc (Nat.le_refl _) o).grown hgr (by simp) (fun k hk => .inr (.inr hk.symm))).setCell (.inr (.inl rfl)) _
  · rcases hat with e | e
    · exact .inl e
    · exact .inr (fun k hk => by rw [e] at hk; simp at hk; omega)

/-- The digits of an operand that has none, or some. -/
theorem num_yes {l ds l' : List UInt8} (h : Dg 18 l ds l') (h0 : 0 < ds.length) : Fac l true l' [(48, val ds)] := by
  rw [h.eq]
  exact fac_opnd (.inl ⟨h0, h.le, h.dig, rfl⟩) (fun d k i => plc_number ds h.dig h0 h.le l' h.stop d k i)
theorem num_no {l ds l' : List UInt8} (h : Dg 18 l ds l') (h0 : ¬ 0 < ds.length) (h1 : ¬ hd l = 32) (h2 : ¬ hd l = 45) (h3 : ¬ hd l = 40) (h5 : selB (hd l) = false) (h6 : oldB (hd l) = false) (ps : List Pt) : Fac l false l' ps := by
  obtain ⟨h4, rfl⟩ := dg_none h h0 (by omega)
  exact ⟨[], rfl, (fun h0 => by cases h0), fun _ d k i _ => by rw [plc_fail6 l h1 h2 h3 h4 h5 h6]; simp⟩
theorem sel_yes {c : UInt8} (hc : selB c.toNat = true) {r ds l' : List UInt8} (h : Dg 2 r ds l') (h0 : 0 < ds.length) : Fac (c :: r) true l' [((c.toNat : Int), val ds)] := by
  rw [h.eq]
  refine fac_opnd (e := c :: ds) (.inr ⟨c, ds, rfl, h0, h.dig, .inl ⟨hc, h.le⟩, rfl⟩) (fun d k i => ?_)
  rw [List.cons_append, plc_sel1 hc, plc_sel ds h.dig h0 h.le l' h.stop]
  congr 1
  simp; omega
theorem sel_no {c : UInt8} (hc : selB c.toNat = true) {r ds l' : List UInt8} (h : Dg 2 r ds l') (h0 : ¬ 0 < ds.length) (ps : List Pt) : Fac (c :: r) false l' ps := by
  obtain ⟨h4, rfl⟩ := dg_none h h0 (by omega)
  exact ⟨[c], rfl, (fun h0 => by cases h0), fun _ d k i _ => by rw [plc_sel1 hc, plc_fail8 r h4]; simp⟩
theorem old_yes {c : UInt8} (hc : oldB c.toNat = true) {r ds l' : List UInt8} (h : Dg 1 r ds l') (h0 : 0 < ds.length) : Fac (c :: r) true l' [((c.toNat : Int), val ds)] := by
  have hl : ds.length = 1 := by have := h.le; omega
  obtain ⟨x, rfl⟩ := List.length_eq_one_iff.1 hl
  rw [h.eq]
  refine fac_opnd (e := c :: [x]) (.inr ⟨c, [x], rfl, h0, h.dig, .inr ⟨hc, hl⟩, rfl⟩) (fun d k i => ?_)
  rw [List.cons_append, plc_old1 hc, List.cons_append, List.nil_append, plc_old x (h.dig x (by simp))]
  congr 1
  simp; omega
theorem old_no {c : UInt8} (hc : oldB c.toNat = true) {r ds l' : List UInt8} (h : Dg 1 r ds l') (h0 : ¬ 0 < ds.length) (ps : List Pt) : Fac (c :: r) false l' ps := by
  obtain ⟨h4, rfl⟩ := dg_none h h0 (by omega)
  exact ⟨[c], rfl, (fun h0 => by cases h0), fun _ d k i _ => by rw [plc_old1 hc, plc_fail9 r h4]; simp⟩

set_option maxRecDepth 100000 in
set_option maxHeartbeats 2000000 in
theorem operand_num (b : Nat) (t : ByteArray) (p : Nat) (v : Value) (ps : List Pt) (w : World) (h : Rd w b t p v ps) (h1 : ¬ hd ((L t).drop p) = 32) (h2 : ¬ hd ((L t).drop p) = 45) (h3 : ¬ hd ((L t).drop p) = 40) (h5 : selB (hd ((L t).drop p)) = false) (h6 : oldB (hd ((L t).drop p)) = false) :
    Calls Tryz.prog 218 #[.pointer (some ⟨b, 0, none⟩)] w fun e w' => ∃ ok p' v' ps', e = .returned (.bool ok) ∧ Fac ((L t).drop p) ok ((L t).drop p') ps' ∧ p + ps'.length ≤ p' ∧ RdR b t v w w' p' v' (ps ++ ps') := by
  obtain ⟨ii, hi, hz0, hz1, hz2⟩ := info_parts info_part
  have hsz := h.sz
  have H := hide h
  have H1 := hide h1
  have H2 := hide h2
  have H3 := hide h3
  have H5 := hide h5
  have H6 := hide h6
  clear h h1 h2 h3 h5 h6
  go_enter Tryz.func218, Tryz.ntmps218
  go_wp2_with fail
  refine (next_any b t p v ps _ (unhide H)).mono ?_
  rintro e w1 ⟨p1, x1, rfl, hr1, hs1⟩
  have Heq := hide (skp_same hs1 (unhide H1))
  rw [← unhide Heq]
  obtain ⟨c, hc⟩ : ∃ c, hd ((L t).drop p) = c := ⟨_, rfl⟩
  have h5 := unhide H5
  have h6 := unhide H6
  rw [hc] at h5 h6 ⊢
  have n64 : (c == 64) = false := by simp [selB] at h5 ⊢; omega
  have n33 : (c == 33) = false := by simp [selB] at h5 ⊢; omega
  have n35 : (c == 35) = false := by simp [selB] at h5 ⊢; omega
  have n36 : (c == 36) = false := by simp [oldB] at h6 ⊢; omega
  have n60 : (c == 60) = false := by simp [oldB] at h6 ⊢; omega
  have Hr1 := hide hr1
  have Hs1 := hide hs1
  clear h5 h6 hc hr1 hs1
  go_wp2_with fail
  refine (digits_any b t p1 v ps 18 _ (unhide Hr1).rd (by omega)).mono ?_
  rintro e w2 ⟨ds, p2, rfl, hg2, he2, hr2⟩
  rw [← unhide Heq] at hg2
  have Hg2 := hide hg2
  have He2 := hide he2
  have Hr2 := hide ((unhide Hr1).trans hr2)
  clear hg2 he2 hr2
  by_cases hd0 : 0 < ds.length
  · have e1 : decide (0 < ds.length) = true := decide_eq_true hd0
    rw [e1]
    clear e1
    have Hf := hide (num_yes (unhide Hg2) hd0)
    have hcnt := (unhide Hr2).rd.cnt
    have hle := (unhide Hr2).rd.le
    have Hc : Hid (ps.length + 1 ≤ p2) := by have := (unhide H).cnt; have := (unhide Hs1).le; have := unhide He2; show _ ≤ _; omega
    obtain ⟨ao, cap, hv⟩ := ownsRow_form (unhide Hr2).rd.own
    subst hv
    have c2 := (unhide Hr2).rd.c2
    have z2 := (unhide Hr2).rd.z2
    have hbl := (unhide Hr2).rd.blk.lt
    have Hd0 := hide hd0
    clear hd0
    go_wp2_with (first
      | (at_builtin; refine wpList_append_own_at _ rfl (.tmp 46) (.tmp 50) 163 rfl (b + 1) 197 ii (.agg #[.int .u8 0, .int .i64 0]) 2 16 Tryz.underlying163 hi hz0 hz1 hz2 rfl (by decide) (.slice ao ps.length cap) ps.length _ rfl ((unhide Hr2).rd.own.alloc _) ⟨w2.heap.size, 0, none⟩ 1 1 [.int .u8 48, .int .i64 (val ds)] rfl rfl (cell_two_new' _ _ (by simp) _ _ _) (fun x hx => by simp at hx; rcases hx with rfl | rfl <;> rfl) (by unfold maxLen; omega) (by omega) (by simp; omega) ?_; intro v5 w5 hown5 hgr5 _ hat5; obtain ⟨gf, cf, rfl, hgf, hgf'⟩ := ownsRow_some hown5 (Nat.succ_pos _); have HB5 := hide (((unhide Hr2).rd.blk.alloc _).grown hgr5 (own_ne' (unhide Hr2).rd.own (Nat.lt_succ_self b))); have y2 := (unhide HB5).frozen 2; have y3 := (unhide HB5).cell 2; simp only [List.getElem?_toArray, List.getElem?_cons_zero, List.getElem?_cons_succ] at y3; have Hown5 := hide hown5; have Hgr5 := hide hgr5; have Hat5 := hide hat5; clear hown5 hgr5 hat5 c2 z2))
    go_ret
    exact ⟨true, p2, _, _, rfl, unhide Hf, by have := (unhide Hs1).le; have := unhide He2; have := unhide Hd0; simp; omega, (unhide Hr2).push _ 48 (val ds) (unhide Hown5) (unhide Hgr5) (unhide Hat5) (unhide Hc)⟩
  · have e1 : decide (0 < ds.length) = false := decide_eq_false hd0
    rw [e1]
    clear e1
    have Hf := hide (num_no (unhide Hg2) hd0 (unhide H1) (unhide H2) (unhide H3) (unhide H5) (unhide H6) [])
    clear hd0
    go_wp2_with fail
    go_ret
    exact ⟨false, p2, v, [], rfl, unhide Hf, by have := (unhide Hs1).le; have := unhide He2; simp; omega, by rw [List.append_nil]; exact unhide Hr2⟩

end Go.Proofs.YtdchbenfccofpaaGreatDoor
namespace Go.Proofs.YtdchbenfccofpaaGreatDoor
open Go.RowKit Db

set_option maxRecDepth 100000 in
set_option maxHeartbeats 2000000 in
theorem operand_64 (b : Nat) (t : ByteArray) (p : Nat) (v : Value) (ps : List Pt) (w : World) (h : Rd w b t p v ps) (h1 : hd ((L t).drop p) = 64) :
    Calls Tryz.prog 218 #[.pointer (some ⟨b, 0, none⟩)] w fun e w' => ∃ ok p' v' ps', e = .returned (.bool ok) ∧ Fac ((L t).drop p) ok ((L t).drop p') ps' ∧ p + ps'.length ≤ p' ∧ RdR b t v w w' p' v' (ps ++ ps') := by
  obtain ⟨ii, hi, hz0, hz1, hz2⟩ := info_parts info_part
  have hsz := h.sz
  have H := hide h
  have H1 := hide h1
  clear h h1
  go_enter Tryz.func218, Tryz.ntmps218
  go_wp2_with fail
  refine (next_any b t p v ps _ (unhide H)).mono ?_
  rintro e w1 ⟨p1, x1, rfl, hr1, hs1⟩
  have Heq := hide (skp_same hs1 (by rw [unhide H1]; decide))
  rw [← unhide Heq, unhide H1]
  have hlt : p1 < t.size := by
    by_cases hh : p1 < t.size
    · exact hh
    · have h2 := unhide H1
      rw [unhide Heq, hd_end t p1 (by omega)] at h2
      cases h2
  have Hl := hide (L_drop t p1 hlt)
  have Hc : Hid ((t[p1].toNat : Int) = 64) := by show _ = _; rw [← hd_drop t p1 hlt, ← unhide Heq]; exact unhide H1
  have c1 := hr1.rd.c1
  have z1 := hr1.rd.z1
  have Hr1 : Hid (RdR b t v w (w1.setCell ⟨b, 1, none⟩ (.int .i64 ((p1 : Int) + 1))) (p1 + 1) v ps) := by
    have := hr1.move (a' := p1 + 1) (by omega) (by have := hr1.rd.cnt; omega)
    show RdR _ _ _ _ _ _ _ _
    simpa using this
  have Hs1 := hide hs1
  clear hr1 hs1
  go_wp2_with fail
  refine (digits_any b t (p1 + 1) v ps 2 _ (unhide Hr1).rd (by omega)).mono ?_
  rintro e w2 ⟨ds, p2, rfl, hg2, he2, hr2⟩
  have Hg2 := hide hg2
  have He2 := hide he2
  have Hr2 := hide ((unhide Hr1).trans hr2)
  clear hg2 he2 hr2
  by_cases hd0 : 0 < ds.length
  · have e1 : decide (0 < ds.length) = true := decide_eq_true hd0
    rw [e1]
    clear e1
    have Hf := hide (sel_yes (c := t[p1]) (by rw [unhide Hc]; rfl) (unhide Hg2) hd0)
    have hcnt := (unhide Hr2).rd.cnt
    have hle := (unhide Hr2).rd.le
    have Hct : Hid (ps.length + 1 ≤ p2) := by have := (unhide H).cnt; have := (unhide Hs1).le; have := unhide He2; show _ ≤ _; omega
    obtain ⟨ao, cap, hv⟩ := ownsRow_form (unhide Hr2).rd.own
    subst hv
    have c2 := (unhide Hr2).rd.c2
    have z2 := (unhide Hr2).rd.z2
    have hbl := (unhide Hr2).rd.blk.lt
    have Hd0 := hide hd0
    clear hd0
    go_wp2_with (first
      | (at_builtin; refine wpList_append_own_at _ rfl (.tmp 46) (.tmp 50) 163 rfl (b + 1) 197 ii (.agg #[.int .u8 0, .int .i64 0]) 2 16 Tryz.underlying163 hi hz0 hz1 hz2 rfl (by decide) (.slice ao ps.length cap) ps.length _ rfl ((unhide Hr2).rd.own.alloc _) ⟨w2.heap.size, 0, none⟩ 1 1 [.int .u8 64, .int .i64 (val ds)] rfl rfl (cell_two_new' _ _ (by simp) _ _ _) (fun x hx => by simp at hx; rcases hx with rfl | rfl <;> rfl) (by unfold maxLen; omega) (by omega) (by simp; omega) ?_; intro v5 w5 hown5 hgr5 _ hat5; obtain ⟨gf, cf, rfl, hgf, hgf'⟩ := ownsRow_some hown5 (Nat.succ_pos _); have HB5 := hide (((unhide Hr2).rd.blk.alloc _).grown hgr5 (own_ne' (unhide Hr2).rd.own (Nat.lt_succ_self b))); have y2 := (unhide HB5).frozen 2; have y3 := (unhide HB5).cell 2; simp only [List.getElem?_toArray, List.getElem?_cons_zero, List.getElem?_cons_succ] at y3; have Hown5 := hide hown5; have Hgr5 := hide hgr5; have Hat5 := hide hat5; clear hown5 hgr5 hat5 c2 z2))
    go_ret
    refine ⟨true, p2, _, [(64, val ds)], rfl, ?_, by have := (unhide Hs1).le; have := unhide He2; have := unhide Hd0; simp; omega, (unhide Hr2).push _ 64 (val ds) (unhide Hown5) (unhide Hgr5) (unhide Hat5) (unhide Hct)⟩
    have := unhide Hf
    rw [unhide Hc] at this
    rw [unhide Heq, unhide Hl]
    exact this
  · have e1 : decide (0 < ds.length) = false := decide_eq_false hd0
    rw [e1]
    clear e1
    have Hf := hide (sel_no (c := t[p1]) (by rw [unhide Hc]; rfl) (unhide Hg2) hd0 [])
    clear hd0
    go_wp2_with fail
    go_ret
    refine ⟨false, p2, v, [], rfl, ?_, by have := (unhide Hs1).le; have := unhide He2; simp; omega, by rw [List.append_nil]; exact unhide Hr2⟩
    rw [unhide Heq, unhide Hl]
    exact unhide Hf

set_option maxRecDepth 100000 in
set_option maxHeartbeats 2000000 in
theorem operand_33 (b : Nat) (t : ByteArray) (p : Nat) (v : Value) (ps : List Pt) (w : World) (h : Rd w b t p v ps) (h1 : hd ((L t).drop p) = 33) :
    Calls Tryz.prog 218 #[.pointer (some ⟨b, 0, none⟩)] w fun e w' => ∃ ok p' v' ps', e = .returned (.bool ok) ∧ Fac ((L t).drop p) ok ((L t).drop p') ps' ∧ p + ps'.length ≤ p' ∧ RdR b t v w w' p' v' (ps ++ ps') := by
  obtain ⟨ii, hi, hz0, hz1, hz2⟩ := info_parts info_part
  have hsz := h.sz
  have H := hide h
  have H1 := hide h1
  clear h h1
  go_enter Tryz.func218, Tryz.ntmps218
  go_wp2_with fail
  refine (next_any b t p v ps _ (unhide H)).mono ?_
  rintro e w1 ⟨p1, x1, rfl, hr1, hs1⟩
  have Heq := hide (skp_same hs1 (by rw [unhide H1]; decide))
  rw [← unhide Heq, unhide H1]
  have hlt : p1 < t.size := by
    by_cases hh : p1 < t.size
    · exact hh
    · have h2 := unhide H1
      rw [unhide Heq, hd_end t p1 (by omega)] at h2
      cases h2
  have Hl := hide (L_drop t p1 hlt)
  have Hc : Hid ((t[p1].toNat : Int) = 33) := by show _ = _; rw [← hd_drop t p1 hlt, ← unhide Heq]; exact unhide H1
  have c1 := hr1.rd.c1
  have z1 := hr1.rd.z1
  have Hr1 : Hid (RdR b t v w (w1.setCell ⟨b, 1, none⟩ (.int .i64 ((p1 : Int) + 1))) (p1 + 1) v ps) := by
    have := hr1.move (a' := p1 + 1) (by omega) (by have := hr1.rd.cnt; omega)
    show RdR _ _ _ _ _ _ _ _
    simpa using this
  have Hs1 := hide hs1
  clear hr1 hs1
  go_wp2_with fail
  refine (digits_any b t (p1 + 1) v ps 2 _ (unhide Hr1).rd (by omega)).mono ?_
  rintro e w2 ⟨ds, p2, rfl, hg2, he2, hr2⟩
  have Hg2 := hide hg2
  have He2 := hide he2
  have Hr2 := hide ((unhide Hr1).trans hr2)
  clear hg2 he2 hr2
  by_cases hd0 : 0 < ds.length
  · have e1 : decide (0 < ds.length) = true := decide_eq_true hd0
    rw [e1]
    clear e1
    have Hf := hide (sel_yes (c := t[p1]) (by rw [unhide Hc]; rfl) (unhide Hg2) hd0)
    have hcnt := (unhide Hr2).rd.cnt
    have hle := (unhide Hr2).rd.le
    have Hct : Hid (ps.length + 1 ≤ p2) := by have := (unhide H).cnt; have := (unhide Hs1).le; have := unhide He2; show _ ≤ _; omega
    obtain ⟨ao, cap, hv⟩ := ownsRow_form (unhide Hr2).rd.own
    subst hv
    have c2 := (unhide Hr2).rd.c2
    have z2 := (unhide Hr2).rd.z2
    have hbl := (unhide Hr2).rd.blk.lt
    have Hd0 := hide hd0
    clear hd0
    go_wp2_with (first
      | (at_builtin; refine wpList_append_own_at _ rfl (.tmp 46) (.tmp 50) 163 rfl (b + 1) 197 ii (.agg #[.int .u8 0, .int .i64 0]) 2 16 Tryz.underlying163 hi hz0 hz1 hz2 rfl (by decide) (.slice ao ps.length cap) ps.length _ rfl ((unhide Hr2).rd.own.alloc _) ⟨w2.heap.size, 0, none⟩ 1 1 [.int .u8 33, .int .i64 (val ds)] rfl rfl (cell_two_new' _ _ (by simp) _ _ _) (fun x hx => by simp at hx; rcases hx with rfl | rfl <;> rfl) (by unfold maxLen; omega) (by omega) (by simp; omega) ?_; intro v5 w5 hown5 hgr5 _ hat5; obtain ⟨gf, cf, rfl, hgf, hgf'⟩ := ownsRow_some hown5 (Nat.succ_pos _); have HB5 := hide (((unhide Hr2).rd.blk.alloc _).grown hgr5 (own_ne' (unhide Hr2).rd.own (Nat.lt_succ_self b))); have y2 := (unhide HB5).frozen 2; have y3 := (unhide HB5).cell 2; simp only [List.getElem?_toArray, List.getElem?_cons_zero, List.getElem?_cons_succ] at y3; have Hown5 := hide hown5; have Hgr5 := hide hgr5; have Hat5 := hide hat5; clear hown5 hgr5 hat5 c2 z2))
    go_ret
    refine ⟨true, p2, _, [(33, val ds)], rfl, ?_, by have := (unhide Hs1).le; have := unhide He2; have := unhide Hd0; simp; omega, (unhide Hr2).push _ 33 (val ds) (unhide Hown5) (unhide Hgr5) (unhide Hat5) (unhide Hct)⟩
    have := unhide Hf
    rw [unhide Hc] at this
    rw [unhide Heq, unhide Hl]
    exact this
  · have e1 : decide (0 < ds.length) = false := decide_eq_false hd0
    rw [e1]
    clear e1
    have Hf := hide (sel_no (c := t[p1]) (by rw [unhide Hc]; rfl) (unhide Hg2) hd0 [])
    clear hd0
    go_wp2_with fail
    go_ret
    refine ⟨false, p2, v, [], rfl, ?_, by have := (unhide Hs1).le; have := unhide He2; simp; omega, by rw [List.append_nil]; exact unhide Hr2⟩
    rw [unhide Heq, unhide Hl]
    exact unhide Hf

set_option maxRecDepth 100000 in
set_option maxHeartbeats 2000000 in
theorem operand_35 (b : Nat) (t : ByteArray) (p : Nat) (v : Value) (ps : List Pt) (w : World) (h : Rd w b t p v ps) (h1 : hd ((L t).drop p) = 35) :
    Calls Tryz.prog 218 #[.pointer (some ⟨b, 0, none⟩)] w fun e w' => ∃ ok p' v' ps', e = .returned (.bool ok) ∧ Fac ((L t).drop p) ok ((L t).drop p') ps' ∧ p + ps'.length ≤ p' ∧ RdR b t v w w' p' v' (ps ++ ps') := by
  obtain ⟨ii, hi, hz0, hz1, hz2⟩ := info_parts info_part
  have hsz := h.sz
  have H := hide h
  have H1 := hide h1
  clear h h1
  go_enter Tryz.func218, Tryz.ntmps218
  go_wp2_with fail
  refine (next_any b t p v ps _ (unhide H)).mono ?_
  rintro e w1 ⟨p1, x1, rfl, hr1, hs1⟩
  have Heq := hide (skp_same hs1 (by rw [unhide H1]; decide))
  rw [← unhide Heq, unhide H1]
  have hlt : p1 < t.size := by
    by_cases hh : p1 < t.size
    · exact hh
    · have h2 := unhide H1
      rw [unhide Heq, hd_end t p1 (by omega)] at h2
      cases h2
  have Hl := hide (L_drop t p1 hlt)
  have Hc : Hid ((t[p1].toNat : Int) = 35) := by show _ = _; rw [← hd_drop t p1 hlt, ← unhide Heq]; exact unhide H1
  have c1 := hr1.rd.c1
  have z1 := hr1.rd.z1
  have Hr1 : Hid (RdR b t v w (w1.setCell ⟨b, 1, none⟩ (.int .i64 ((p1 : Int) + 1))) (p1 + 1) v ps) := by
    have := hr1.move (a' := p1 + 1) (by omega) (by have := hr1.rd.cnt; omega)
    show RdR _ _ _ _ _ _ _ _
    simpa using this
  have Hs1 := hide hs1
  clear hr1 hs1
  go_wp2_with fail
  refine (digits_any b t (p1 + 1) v ps 2 _ (unhide Hr1).rd (by omega)).mono ?_
  rintro e w2 ⟨ds, p2, rfl, hg2, he2, hr2⟩
  have Hg2 := hide hg2
  have He2 := hide he2
  have Hr2 := hide ((unhide Hr1).trans hr2)
  clear hg2 he2 hr2
  by_cases hd0 : 0 < ds.length
  · have e1 : decide (0 < ds.length) = true := decide_eq_true hd0
    rw [e1]
    clear e1
    have Hf := hide (sel_yes (c := t[p1]) (by rw [unhide Hc]; rfl) (unhide Hg2) hd0)
    have hcnt := (unhide Hr2).rd.cnt
    have hle := (unhide Hr2).rd.le
    have Hct : Hid (ps.length + 1 ≤ p2) := by have := (unhide H).cnt; have := (unhide Hs1).le; have := unhide He2; show _ ≤ _; omega
    obtain ⟨ao, cap, hv⟩ := ownsRow_form (unhide Hr2).rd.own
    subst hv
    have c2 := (unhide Hr2).rd.c2
    have z2 := (unhide Hr2).rd.z2
    have hbl := (unhide Hr2).rd.blk.lt
    have Hd0 := hide hd0
    clear hd0
    go_wp2_with (first
      | (at_builtin; refine wpList_append_own_at _ rfl (.tmp 46) (.tmp 50) 163 rfl (b + 1) 197 ii (.agg #[.int .u8 0, .int .i64 0]) 2 16 Tryz.underlying163 hi hz0 hz1 hz2 rfl (by decide) (.slice ao ps.length cap) ps.length _ rfl ((unhide Hr2).rd.own.alloc _) ⟨w2.heap.size, 0, none⟩ 1 1 [.int .u8 35, .int .i64 (val ds)] rfl rfl (cell_two_new' _ _ (by simp) _ _ _) (fun x hx => by simp at hx; rcases hx with rfl | rfl <;> rfl) (by unfold maxLen; omega) (by omega) (by simp; omega) ?_; intro v5 w5 hown5 hgr5 _ hat5; obtain ⟨gf, cf, rfl, hgf, hgf'⟩ := ownsRow_some hown5 (Nat.succ_pos _); have HB5 := hide (((unhide Hr2).rd.blk.alloc _).grown hgr5 (own_ne' (unhide Hr2).rd.own (Nat.lt_succ_self b))); have y2 := (unhide HB5).frozen 2; have y3 := (unhide HB5).cell 2; simp only [List.getElem?_toArray, List.getElem?_cons_zero, List.getElem?_cons_succ] at y3; have Hown5 := hide hown5; have Hgr5 := hide hgr5; have Hat5 := hide hat5; clear hown5 hgr5 hat5 c2 z2))
    go_ret
    refine ⟨true, p2, _, [(35, val ds)], rfl, ?_, by have := (unhide Hs1).le; have := unhide He2; have := unhide Hd0; simp; omega, (unhide Hr2).push _ 35 (val ds) (unhide Hown5) (unhide Hgr5) (unhide Hat5) (unhide Hct)⟩
    have := unhide Hf
    rw [unhide Hc] at this
    rw [unhide Heq, unhide Hl]
    exact this
  · have e1 : decide (0 < ds.length) = false := decide_eq_false hd0
    rw [e1]
    clear e1
    have Hf := hide (sel_no (c := t[p1]) (by rw [unhide Hc]; rfl) (unhide Hg2) hd0 [])
    clear hd0
    go_wp2_with fail
    go_ret
    refine ⟨false, p2, v, [], rfl, ?_, by have := (unhide Hs1).le; have := unhide He2; simp; omega, by rw [List.append_nil]; exact unhide Hr2⟩
    rw [unhide Heq, unhide Hl]
    exact unhide Hf

set_option maxRecDepth 100000 in
set_option maxHeartbeats 2000000 in
theorem operand_36 (b : Nat) (t : ByteArray) (p : Nat) (v : Value) (ps : List Pt) (w : World) (h : Rd w b t p v ps) (h1 : hd ((L t).drop p) = 36) :
    Calls Tryz.prog 218 #[.pointer (some ⟨b, 0, none⟩)] w fun e w' => ∃ ok p' v' ps', e = .returned (.bool ok) ∧ Fac ((L t).drop p) ok ((L t).drop p') ps' ∧ p + ps'.length ≤ p' ∧ RdR b t v w w' p' v' (ps ++ ps') := by
  obtain ⟨ii, hi, hz0, hz1, hz2⟩ := info_parts info_part
  have hsz := h.sz
  have H := hide h
  have H1 := hide h1
  clear h h1
  go_enter Tryz.func218, Tryz.ntmps218
  go_wp2_with fail
  refine (next_any b t p v ps _ (unhide H)).mono ?_
  rintro e w1 ⟨p1, x1, rfl, hr1, hs1⟩
  have Heq := hide (skp_same hs1 (by rw [unhide H1]; decide))
  rw [← unhide Heq, unhide H1]
  have hlt : p1 < t.size := by
    by_cases hh : p1 < t.size
    · exact hh
    · have h2 := unhide H1
      rw [unhide Heq, hd_end t p1 (by omega)] at h2
      cases h2
  have Hl := hide (L_drop t p1 hlt)
  have Hc : Hid ((t[p1].toNat : Int) = 36) := by show _ = _; rw [← hd_drop t p1 hlt, ← unhide Heq]; exact unhide H1
  have c1 := hr1.rd.c1
  have z1 := hr1.rd.z1
  have Hr1 : Hid (RdR b t v w (w1.setCell ⟨b, 1, none⟩ (.int .i64 ((p1 : Int) + 1))) (p1 + 1) v ps) := by
    have := hr1.move (a' := p1 + 1) (by omega) (by have := hr1.rd.cnt; omega)
    show RdR _ _ _ _ _ _ _ _
    simpa using this
  have Hs1 := hide hs1
  clear hr1 hs1
  go_wp2_with fail
  refine (digits_any b t (p1 + 1) v ps 1 _ (unhide Hr1).rd (by omega)).mono ?_
  rintro e w2 ⟨ds, p2, rfl, hg2, he2, hr2⟩
  have Hg2 := hide hg2
  have He2 := hide he2
  have Hr2 := hide ((unhide Hr1).trans hr2)
  clear hg2 he2 hr2
  by_cases hd0 : 0 < ds.length
  · have e1 : decide (0 < ds.length) = true := decide_eq_true hd0
    rw [e1]
    clear e1
    have Hf := hide (old_yes (c := t[p1]) (by rw [unhide Hc]; rfl) (unhide Hg2) hd0)
    have hcnt := (unhide Hr2).rd.cnt
    have hle := (unhide Hr2).rd.le
    have Hct : Hid (ps.length + 1 ≤ p2) := by have := (unhide H).cnt; have := (unhide Hs1).le; have := unhide He2; show _ ≤ _; omega
    obtain ⟨ao, cap, hv⟩ := ownsRow_form (unhide Hr2).rd.own
    subst hv
    have c2 := (unhide Hr2).rd.c2
    have z2 := (unhide Hr2).rd.z2
    have hbl := (unhide Hr2).rd.blk.lt
    have Hd0 := hide hd0
    clear hd0
    go_wp2_with (first
      | (at_builtin; refine wpList_append_own_at _ rfl (.tmp 46) (.tmp 50) 163 rfl (b + 1) 197 ii (.agg #[.int .u8 0, .int .i64 0]) 2 16 Tryz.underlying163 hi hz0 hz1 hz2 rfl (by decide) (.slice ao ps.length cap) ps.length _ rfl ((unhide Hr2).rd.own.alloc _) ⟨w2.heap.size, 0, none⟩ 1 1 [.int .u8 36, .int .i64 (val ds)] rfl rfl (cell_two_new' _ _ (by simp) _ _ _) (fun x hx => by simp at hx; rcases hx with rfl | rfl <;> rfl) (by unfold maxLen; omega) (by omega) (by simp; omega) ?_; intro v5 w5 hown5 hgr5 _ hat5; obtain ⟨gf, cf, rfl, hgf, hgf'⟩ := ownsRow_some hown5 (Nat.succ_pos _); have HB5 := hide (((unhide Hr2).rd.blk.alloc _).grown hgr5 (own_ne' (unhide Hr2).rd.own (Nat.lt_succ_self b))); have y2 := (unhide HB5).frozen 2; have y3 := (unhide HB5).cell 2; simp only [List.getElem?_toArray, List.getElem?_cons_zero, List.getElem?_cons_succ] at y3; have Hown5 := hide hown5; have Hgr5 := hide hgr5; have Hat5 := hide hat5; clear hown5 hgr5 hat5 c2 z2))
    go_ret
    refine ⟨true, p2, _, [(36, val ds)], rfl, ?_, by have := (unhide Hs1).le; have := unhide He2; have := unhide Hd0; simp; omega, (unhide Hr2).push _ 36 (val ds) (unhide Hown5) (unhide Hgr5) (unhide Hat5) (unhide Hct)⟩
    have := unhide Hf
    rw [unhide Hc] at this
    rw [unhide Heq, unhide Hl]
    exact this
  · have e1 : decide (0 < ds.length) = false := decide_eq_false hd0
    rw [e1]
    clear e1
    have Hf := hide (old_no (c := t[p1]) (by rw [unhide Hc]; rfl) (unhide Hg2) hd0 [])
    clear hd0
    go_wp2_with fail
    go_ret
    refine ⟨false, p2, v, [], rfl, ?_, by have := (unhide Hs1).le; have := unhide He2; simp; omega, by rw [List.append_nil]; exact unhide Hr2⟩
    rw [unhide Heq, unhide Hl]
    exact unhide Hf

set_option maxRecDepth 100000 in
set_option maxHeartbeats 2000000 in
theorem operand_60 (b : Nat) (t : ByteArray) (p : Nat) (v : Value) (ps : List Pt) (w : World) (h : Rd w b t p v ps) (h1 : hd ((L t).drop p) = 60) :
    Calls Tryz.prog 218 #[.pointer (some ⟨b, 0, none⟩)] w fun e w' => ∃ ok p' v' ps', e = .returned (.bool ok) ∧ Fac ((L t).drop p) ok ((L t).drop p') ps' ∧ p + ps'.length ≤ p' ∧ RdR b t v w w' p' v' (ps ++ ps') := by
  obtain ⟨ii, hi, hz0, hz1, hz2⟩ := info_parts info_part
  have hsz := h.sz
  have H := hide h
  have H1 := hide h1
  clear h h1
  go_enter Tryz.func218, Tryz.ntmps218
  go_wp2_with fail
  refine (next_any b t p v ps _ (unhide H)).mono ?_
  rintro e w1 ⟨p1, x1, rfl, hr1, hs1⟩
  have Heq := hide (skp_same hs1 (by rw [unhide H1]; decide))
  rw [← unhide Heq, unhide H1]
  have hlt : p1 < t.size := by
    by_cases hh : p1 < t.size
    · exact hh
    · have h2 := unhide H1
      rw [unhide Heq, hd_end t p1 (by omega)] at h2
      cases h2
  have Hl := hide (L_drop t p1 hlt)
  have Hc : Hid ((t[p1].toNat : Int) = 60) := by show _ = _; rw [← hd_drop t p1 hlt, ← unhide Heq]; exact unhide H1
  have c1 := hr1.rd.c1
  have z1 := hr1.rd.z1
  have Hr1 : Hid (RdR b t v w (w1.setCell ⟨b, 1, none⟩ (.int .i64 ((p1 : Int) + 1))) (p1 + 1) v ps) := by
    have := hr1.move (a' := p1 + 1) (by omega) (by have := hr1.rd.cnt; omega)
    show RdR _ _ _ _ _ _ _ _
    simpa using this
  have Hs1 := hide hs1
  clear hr1 hs1
  go_wp2_with fail
  refine (digits_any b t (p1 + 1) v ps 1 _ (unhide Hr1).rd (by omega)).mono ?_
  rintro e w2 ⟨ds, p2, rfl, hg2, he2, hr2⟩
  have Hg2 := hide hg2
  have He2 := hide he2
  have Hr2 := hide ((unhide Hr1).trans hr2)
  clear hg2 he2 hr2
  by_cases hd0 : 0 < ds.length
  · have e1 : decide (0 < ds.length) = true := decide_eq_true hd0
    rw [e1]
    clear e1
    have Hf := hide (old_yes (c := t[p1]) (by rw [unhide Hc]; rfl) (unhide Hg2) hd0)
    have hcnt := (unhide Hr2).rd.cnt
    have hle := (unhide Hr2).rd.le
    have Hct : Hid (ps.length + 1 ≤ p2) := by have := (unhide H).cnt; have := (unhide Hs1).le; have := unhide He2; show _ ≤ _; omega
    obtain ⟨ao, cap, hv⟩ := ownsRow_form (unhide Hr2).rd.own
    subst hv
    have c2 := (unhide Hr2).rd.c2
    have z2 := (unhide Hr2).rd.z2
    have hbl := (unhide Hr2).rd.blk.lt
    have Hd0 := hide hd0
    clear hd0
    go_wp2_with (first
      | (at_builtin; refine wpList_append_own_at _ rfl (.tmp 46) (.tmp 50) 163 rfl (b + 1) 197 ii (.agg #[.int .u8 0, .int .i64 0]) 2 16 Tryz.underlying163 hi hz0 hz1 hz2 rfl (by decide) (.slice ao ps.length cap) ps.length _ rfl ((unhide Hr2).rd.own.alloc _) ⟨w2.heap.size, 0, none⟩ 1 1 [.int .u8 60, .int .i64 (val ds)] rfl rfl (cell_two_new' _ _ (by simp) _ _ _) (fun x hx => by simp at hx; rcases hx with rfl | rfl <;> rfl) (by unfold maxLen; omega) (by omega) (by simp; omega) ?_; intro v5 w5 hown5 hgr5 _ hat5; obtain ⟨gf, cf, rfl, hgf, hgf'⟩ := ownsRow_some hown5 (Nat.succ_pos _); have HB5 := hide (((unhide Hr2).rd.blk.alloc _).grown hgr5 (own_ne' (unhide Hr2).rd.own (Nat.lt_succ_self b))); have y2 := (unhide HB5).frozen 2; have y3 := (unhide HB5).cell 2; simp only [List.getElem?_toArray, List.getElem?_cons_zero, List.getElem?_cons_succ] at y3; have Hown5 := hide hown5; have Hgr5 := hide hgr5; have Hat5 := hide hat5; clear hown5 hgr5 hat5 c2 z2))
    go_ret
    refine ⟨true, p2, _, [(60, val ds)], rfl, ?_, by have := (unhide Hs1).le; have := unhide He2; have := unhide Hd0; simp; omega, (unhide Hr2).push _ 60 (val ds) (unhide Hown5) (unhide Hgr5) (unhide Hat5) (unhide Hct)⟩
    have := unhide Hf
    rw [unhide Hc] at this
    rw [unhide Heq, unhide Hl]
    exact this
  · have e1 : decide (0 < ds.length) = false := decide_eq_false hd0
    rw [e1]
    clear e1
    have Hf := hide (old_no (c := t[p1]) (by rw [unhide Hc]; rfl) (unhide Hg2) hd0 [])
    clear hd0
    go_wp2_with fail
    go_ret
    refine ⟨false, p2, v, [], rfl, ?_, by have := (unhide Hs1).le; have := unhide He2; simp; omega, by rw [List.append_nil]; exact unhide Hr2⟩
    rw [unhide Heq, unhide Hl]
    exact unhide Hf

theorem operand_any (b : Nat) (t : ByteArray) (p : Nat) (v : Value) (ps : List Pt) (w : World) (h : Rd w b t p v ps) (h1 : ¬ hd ((L t).drop p) = 32) (h2 : ¬ hd ((L t).drop p) = 45) (h3 : ¬ hd ((L t).drop p) = 40) :
    Calls Tryz.prog 218 #[.pointer (some ⟨b, 0, none⟩)] w fun e w' => ∃ ok p' v' ps', e = .returned (.bool ok) ∧ Fac ((L t).drop p) ok ((L t).drop p') ps' ∧ p + ps'.length ≤ p' ∧ RdR b t v w w' p' v' (ps ++ ps') := by
  by_cases h64 : hd ((L t).drop p) = 64
  · exact operand_64 b t p v ps w h h64
  by_cases h33 : hd ((L t).drop p) = 33
  · exact operand_33 b t p v ps w h h33
  by_cases h35 : hd ((L t).drop p) = 35
  · exact operand_35 b t p v ps w h h35
  by_cases h36 : hd ((L t).drop p) = 36
  · exact operand_36 b t p v ps w h h36
  by_cases h60 : hd ((L t).drop p) = 60
  · exact operand_60 b t p v ps w h h60
  exact operand_num b t p v ps w h h1 h2 h3 (by simp [selB, h64, h33, h35]) (by simp [oldB, h36, h60])

end Go.Proofs.YtdchbenfccofpaaGreatDoor
