/- Cells: the program's Opposite and Join. Facts on the steps of a spot. Rows: their parts, their kinds; what the document's cutting makes of them. Facts on splitting. What Check answers to a report by its form. The pile: how many it holds; kinds of the program and of the document. Codes: what parts come to, and what a coder makes of them. Reports: what lines come to, the cells of a report, as plain functions. Movements: what the program's ledger takes of its lines. Movements: an account alone, and with all below it. Walks of the books: the program's Close. -/
import Derived.Test.YtdchbenfccofpabGreatDoorC01
import Derived.Deep.LoopGhost
namespace Go.Proofs.YtdchbenfccofpabGreatDoor
open Go.RowKit Db

/-- A cell: a whole number, z or o. -/
def ClOk (c : Cl) : Prop := (c.2 = 0 ∧ inR c.1 = true) ∨ c = (0, 122) ∨ c = (0, 111)
theorem chk_ok (v : Int) : ClOk (chk v) := by
  cases h : inR v with
  | true => rw [chk_yes h]; exact .inl ⟨rfl, h⟩
  | false => rw [chk_no h]; exact .inr (.inr rfl)
theorem don_ok {o : Int} {x y : Cl} (hx : ClOk x) (hy : ClOk y) : ClOk (don o x y) := by
  unfold don
  repeat' split
  all_goals first | exact hx | exact hy | exact chk_ok _ | exact .inr (.inl rfl)
theorem two_new (w : World) (A B : Array Value) (T : TypeId) : ∃ W, (w.alloc (.cells A T)).alloc (.cells B T) = W ∧ Blk W w.heap.size A T ∧ Blk W (w.heap.size + 1) B T ∧ Below w.heap.size w W ∧ W.heap.size = w.heap.size + 2 := by
  refine ⟨_, rfl, (Blk.new w A T).alloc _, ?_, ((Below.refl _ _).alloc (Nat.le_refl _) _).alloc (by simp) _, by simp⟩
  simpa using Blk.new (w.alloc (.cells A T)) B T
theorem gst_zero {c : Cl} (h : ClOk c) (k : (c.2 == 0) = false) : (gst c.2 == 0) = false := by
  rcases h with ⟨h, _⟩ | rfl | rfl
  · rw [h] at k; cases k
  · rfl
  · rfl
theorem gst_z0 : gst 0 = 0 := rfl

set_option maxRecDepth 100000 in
set_option maxHeartbeats 2000000 in
theorem opp_any (c : Cl) (w : World) (hc : ClOk c) :
    Calls Tryz.prog 101 #[gV c] w fun e w' => e = .returned (gV (don 45 (0, 0) c)) ∧ Below w.heap.size w w' := by
  obtain ⟨a, m⟩ := c
  obtain ⟨W, hW, B1, B2, hb, hWs⟩ := two_new w #[.int .i64 (gst m), .int .i64 a] #[.int .i64 0, .int .i64 0] 161
  obtain ⟨p0, p1, _, _, l1⟩ := two_cells B1
  obtain ⟨r0, r1, z0, z1, l3⟩ := two_cells B2
  have Hb := hide hb
  have HB2 := hide B2
  clear B1 B2 hb
  cases hm : (m == 0) with
  | false =>
    rw [don_y rfl (by exact hm)]
    have hg := gst_zero hc (by exact hm)
    simp only at hg
    clear hc
    unfold gV
    simp only
    go_enter Tryz.func101, Tryz.ntmps101
    go_wp2_with fail
    refine bodyPost_ret (v := .agg #[.int .i64 (gst m), .int .i64 a]) (by simp [results, Tryz.results101, go_sem, r0, r1]) rfl ⟨rfl, ?_⟩
    exact ((unhide Hb).setCell (by simp) _).setCell (by simp) _
  | true =>
    obtain rfl : m = 0 := by simpa using hm
    have ha : inR a = true := by
      rcases hc with ⟨_, h⟩ | h | h
      · exact h
      · cases h
      · cases h
    rw [don_m]
    have HD := hide (fun wx => difference_any 0 a wx (by decide) ha)
    obtain ⟨d, hd⟩ : ∃ d, chk (0 - a) = d := ⟨_, rfl⟩
    rw [hd] at HD ⊢
    rw [gst_z0] at p0
    obtain ⟨d1, d2⟩ := d
    unfold gV at HD ⊢
    simp only [gst_z0] at HD ⊢
    obtain ⟨dd, hdd⟩ : ∃ dd, gst d2 = dd := ⟨_, rfl⟩
    rw [hdd] at HD ⊢
    rw [gst_z0] at hW
    clear hc hd hdd ha
    go_enter Tryz.func101, Tryz.ntmps101
    go_wp2_with fail
    try rw [hW]
    clear r0 r1 z0 z1 l3 p0 p1
    refine (unhide HD _).mono ?_
    rintro e w1 ⟨rfl, hw1⟩
    have HB3 := hide ((unhide HB2).kept hw1)
    have Hb1 := hide ((unhide Hb).then' (by omega) hw1)
    clear hw1
    obtain ⟨r0, r1, z0, z1, l3⟩ := two_cells (unhide HB3)
    go_wp2_with fail
    refine bodyPost_ret (v := .agg #[.int .i64 dd, .int .i64 d1]) (by simp [results, Tryz.results101, go_sem, r0, r1]) rfl ⟨rfl, ?_⟩
    exact ((unhide Hb1).setCell (by simp) _).setCell (by simp) _

set_option maxRecDepth 100000 in
set_option maxHeartbeats 4000000 in
theorem join_any (o : Int) (x y : Cl) (w : World) (hx : ClOk x) (hy : ClOk y) :
    Calls Tryz.prog 102 #[.int .u8 o, gV x, gV y] w fun e w' => e = .returned (gV (don o x y)) ∧ Below w.heap.size w w' := by
  obtain ⟨a, m⟩ := x
  obtain ⟨b, n⟩ := y
  obtain ⟨W, hW, B1, B2, B3, hb, hWs⟩ := three_new w #[.int .i64 (gst m), .int .i64 a] #[.int .i64 (gst n), .int .i64 b] #[.int .i64 0, .int .i64 0] 161
  obtain ⟨p0, p1, _, _, l1⟩ := two_cells B1
  obtain ⟨q0, q1, _, _, l2⟩ := two_cells B2
  obtain ⟨r0, r1, z0, z1, l3⟩ := two_cells B3
  have Hb := hide hb
  have HB3 := hide B3
  clear B1 B2 B3 hb
  cases hm : (m == 0) with
  | false =>
    rw [don_x (by exact hm)]
    have hg := gst_zero hx (by exact hm)
    simp only at hg
    clear hx hy
    unfold gV
    simp only
    go_enter Tryz.func102, Tryz.ntmps102
    go_wp2_with fail
    refine bodyPost_ret (v := .agg #[.int .i64 (gst m), .int .i64 a]) (by simp [results, Tryz.results102, go_sem, r0, r1]) rfl ⟨rfl, ?_⟩
    exact ((unhide Hb).setCell (by simp; omega) _).setCell (by simp; omega) _
  | true =>
    obtain rfl : m = 0 := by simpa using hm
    cases hn : (n == 0) with
    | false =>
      rw [don_y rfl (by exact hn)]
      have hg := gst_zero hy (by exact hn)
      simp only at hg
      clear hx hy
      rw [gst_z0] at p0 hW
      unfold gV
      simp only [gst_z0]
      go_enter Tryz.func102, Tryz.ntmps102
      go_wp2_with fail
      refine bodyPost_ret (v := .agg #[.int .i64 (gst n), .int .i64 b]) (by simp [results, Tryz.results102, go_sem, r0, r1]) rfl ⟨rfl, ?_⟩
      exact ((unhide Hb).setCell (by simp; omega) _).setCell (by simp; omega) _
    | true =>
      obtain rfl : n = 0 := by simpa using hn
      clear hm hn
      have ha : inR a = true := by
        rcases hx with ⟨_, h⟩ | h | h
        · exact h
        · cases h
        · cases h
      have hbb : inR b = true := by
        rcases hy with ⟨_, h⟩ | h | h
        · exact h
        · cases h
        · cases h
      rw [gst_z0] at p0 q0 hW
      clear hx hy
      by_cases h43 : o = 43
      · subst h43
        rw [don_p]
        have HD := hide (fun wx => sum_any a b wx ha hbb)
        obtain ⟨d, hd⟩ : ∃ d, chk (a + b) = d := ⟨_, rfl⟩
        rw [hd] at HD ⊢
        obtain ⟨d1, d2⟩ := d
        unfold gV at HD ⊢
        simp only [gst_z0] at HD ⊢
        obtain ⟨dd, hdd⟩ : ∃ dd, gst d2 = dd := ⟨_, rfl⟩
        rw [hdd] at HD ⊢
        clear hd hdd ha hbb
        go_enter Tryz.func102, Tryz.ntmps102
        go_wp2_with fail
        try rw [hW]
        clear r0 r1 z0 z1 l3 p0 p1 q0 q1
        refine (unhide HD _).mono ?_
        rintro e w1 ⟨rfl, hw1⟩
        have HB4 := hide ((unhide HB3).kept hw1)
        have Hb1 := hide ((unhide Hb).then' (by omega) hw1)
        clear hw1
        obtain ⟨r0, r1, z0, z1, l3⟩ := two_cells (unhide HB4)
        go_wp2_with fail
        refine bodyPost_ret (v := .agg #[.int .i64 dd, .int .i64 d1]) (by simp [results, Tryz.results102, go_sem, r0, r1]) rfl ⟨rfl, ?_⟩
        exact ((unhide Hb1).setCell (by simp; omega) _).setCell (by simp; omega) _
      by_cases h45 : o = 45
      · subst h45
        rw [don_m]
        have HD := hide (fun wx => difference_any a b wx ha hbb)
        obtain ⟨d, hd⟩ : ∃ d, chk (a - b) = d := ⟨_, rfl⟩
        rw [hd] at HD ⊢
        obtain ⟨d1, d2⟩ := d
        unfold gV at HD ⊢
        simp only [gst_z0] at HD ⊢
        obtain ⟨dd, hdd⟩ : ∃ dd, gst d2 = dd := ⟨_, rfl⟩
        rw [hdd] at HD ⊢
        clear hd hdd ha hbb
        go_enter Tryz.func102, Tryz.ntmps102
        go_wp2_with fail
        try rw [hW]
        clear r0 r1 z0 z1 l3 p0 p1 q0 q1
        refine (unhide HD _).mono ?_
        rintro e w1 ⟨rfl, hw1⟩
        have HB4 := hide ((unhide HB3).kept hw1)
        have Hb1 := hide ((unhide Hb).then' (by omega) hw1)
        clear hw1
        obtain ⟨r0, r1, z0, z1, l3⟩ := two_cells (unhide HB4)
        go_wp2_with fail
        refine bodyPost_ret (v := .agg #[.int .i64 dd, .int .i64 d1]) (by simp [results, Tryz.results102, go_sem, r0, r1]) rfl ⟨rfl, ?_⟩
        exact ((unhide Hb1).setCell (by simp; omega) _).setCell (by simp; omega) _
      by_cases h42 : o = 42
      · subst h42
        rw [don_t]
        have HD := hide (fun wx => gProd_any a b wx ha hbb)
        obtain ⟨d, hd⟩ : ∃ d, chk (a * b) = d := ⟨_, rfl⟩
        rw [hd] at HD ⊢
        obtain ⟨d1, d2⟩ := d
        unfold gV at HD ⊢
        simp only [gst_z0] at HD ⊢
        obtain ⟨dd, hdd⟩ : ∃ dd, gst d2 = dd := ⟨_, rfl⟩
        rw [hdd] at HD ⊢
        clear hd hdd ha hbb
        go_enter Tryz.func102, Tryz.ntmps102
        go_wp2_with fail
        try rw [hW]
        clear r0 r1 z0 z1 l3 p0 p1 q0 q1
        refine (unhide HD _).mono ?_
        rintro e w1 ⟨rfl, hw1⟩
        have HB4 := hide ((unhide HB3).kept hw1)
        have Hb1 := hide ((unhide Hb).then' (by omega) hw1)
        clear hw1
        obtain ⟨r0, r1, z0, z1, l3⟩ := two_cells (unhide HB4)
        go_wp2_with fail
        refine bodyPost_ret (v := .agg #[.int .i64 dd, .int .i64 d1]) (by simp [results, Tryz.results102, go_sem, r0, r1]) rfl ⟨rfl, ?_⟩
        exact ((unhide Hb1).setCell (by simp; omega) _).setCell (by simp; omega) _
      have e43 : (o == 43) = false := by simpa using h43
      have e45 : (o == 45) = false := by simpa using h45
      have e42 : (o == 42) = false := by simpa using h42
      have hq : don o (a, 0) (b, 0) = qc a b := by
        unfold qc
        cases hz : (b == 0) with
        | true => rw [don_z e43 e45 e42 hz]; rfl
        | false => rw [don_d e43 e45 e42 hz]; rfl
      rw [hq]
      clear hq
      have HD := hide (fun wx => gQuo_any a b wx ha hbb)
      obtain ⟨d, hd⟩ : ∃ d, qc a b = d := ⟨_, rfl⟩
      rw [hd] at HD ⊢
      obtain ⟨d1, d2⟩ := d
      unfold gV at HD ⊢
      simp only [gst_z0] at HD ⊢
      obtain ⟨dd, hdd⟩ : ∃ dd, gst d2 = dd := ⟨_, rfl⟩
      rw [hdd] at HD ⊢
      clear hd hdd ha hbb
      go_enter Tryz.func102, Tryz.ntmps102
      go_wp2_with fail
      try rw [hW]
      clear r0 r1 z0 z1 l3 p0 p1 q0 q1
      refine (unhide HD _).mono ?_
      rintro e w1 ⟨rfl, hw1⟩
      have HB4 := hide ((unhide HB3).kept hw1)
      have Hb1 := hide ((unhide Hb).then' (by omega) hw1)
      clear hw1
      obtain ⟨r0, r1, z0, z1, l3⟩ := two_cells (unhide HB4)
      go_wp2_with fail
      refine bodyPost_ret (v := .agg #[.int .i64 dd, .int .i64 d1]) (by simp [results, Tryz.results102, go_sem, r0, r1]) rfl ⟨rfl, ?_⟩
      exact ((unhide Hb1).setCell (by simp; omega) _).setCell (by simp; omega) _

end Go.Proofs.YtdchbenfccofpabGreatDoor
namespace Db
theorem plc_step {a d o i : Int} {c : UInt8} {r : List UInt8} {a' d' o' : Int} (h : stepS a d o c.toNat = some (a', d', o')) : plc a d o i (c :: r) = plc a' d' o' (i + 1) r := by
  simp only [plc, h]
theorem plc_stop {a d o i : Int} {c : UInt8} {r : List UInt8} (h : stepS a d o c.toNat = none) : plc a d o i (c :: r) = i := by
  simp only [plc, h]
theorem stepS_ok {a d o c : Int} {n : Nat} {a' d' o' : Int} (h : okS a d o n) (hs : stepS a d o c = some (a', d', o')) : okS a' d' o' (n + 1) := by
  obtain ⟨h1, h2, h3, h4, h5, h6⟩ := h
  have key : ∀ x : Option (Int × Int × Int), x = some (a', d', o') → (∀ p, x = some p → okS p.1 p.2.1 p.2.2 (n + 1)) → okS a' d' o' (n + 1) := fun x hx hp => hp _ hx
  refine key _ hs ?_
  intro p hp
  unfold stepS at hp
  split at hp
  · unfold daysS at hp
    repeat' split at hp
    all_goals first | (cases hp; done) | (obtain rfl := Option.some.inj hp; refine ⟨?_, ?_, ?_, ?_, ?_, ?_⟩ <;> (try simp_all) <;> omega)
  · split at hp
    · unfold factS at hp
      repeat' split at hp
      all_goals first | (cases hp; done) | (obtain rfl := Option.some.inj hp; refine ⟨?_, ?_, ?_, ?_, ?_, ?_⟩ <;> (try simp_all) <;> omega)
    · unfold onwS at hp
      repeat' split at hp
      all_goals first | (cases hp; done) | (obtain rfl := Option.some.inj hp; refine ⟨?_, ?_, ?_, ?_, ?_, ?_⟩ <;> (try simp_all) <;> omega)
end Db
namespace Db

/-- The kind of what comes of an operation: 0 none, 1 money, 2 number. -/
def joinK (o a b : Int) : Int :=
  if a == 0 || b == 0 then 0
  else if o == 43 || o == 45 then (if a == b then a else 0)
  else if o == 42 && a == 1 && b == 1 then 0
  else if o == 42 && (a == 1 || b == 1) then 1
  else if o == 47 && a == 1 && b == 2 then 1
  else if o == 47 && a == 2 && b == 1 then 0
  else 2
theorem joinK_bd (o a b : Int) (ha : 0 ≤ a ∧ a ≤ 2) : 0 ≤ joinK o a b ∧ joinK o a b ≤ 2 := by
  unfold joinK; repeat' split
  all_goals omega

/-- A part: its sign, its number. (48: a number; 126: a - ahead.) -/
abbrev Pt := Int × Int
def opdB (s : Int) : Bool := s == 48 || selB s || oldB s
def leafK (rows : List Int) (p : Pt) : Int := if p.1 == 64 || p.1 == 33 then 1 else if oldB p.1 then rows.getD p.2.toNat 0 else 2
/-- The kinds on the pile. -/
def kEval (rows : List Int) : List Pt → List Int → List Int
  | [], st => st
  | p :: r, st => if opdB p.1 then kEval rows r (leafK rows p :: st) else if p.1 == 126 then kEval rows r st else
    match st with
    | y :: x :: t => kEval rows r (joinK p.1 x y :: t)
    | _ => st

/-- An operand and its part. -/
def Opnd (e : List UInt8) (ps : List Pt) : Prop :=
  (1 ≤ e.length ∧ e.length ≤ 18 ∧ (∀ c ∈ e, digB c.toNat = true) ∧ ps = [(48, val e)]) ∨
  ∃ c ds, e = c :: ds ∧ 1 ≤ ds.length ∧ (∀ x ∈ ds, digB x.toNat = true) ∧ ((selB c.toNat = true ∧ ds.length ≤ 2) ∨ (oldB c.toNat = true ∧ ds.length = 1)) ∧ ps = [((c.toNat : Int), val ds)]

/-- e, cut again and again, comes to these parts. -/
def Wf : Nat → List UInt8 → List Pt → Prop
  | 0, _, _ => False
  | n + 1, e, ps => (cut e = (0, [], e) ∧ Opnd e ps) ∨ ((cut e).1 = 40 ∧ Wf n (cut e).2.2 ps) ∨ ((cut e).1 = 126 ∧ ∃ p, Wf n (cut e).2.2 p ∧ ps = p ++ [(126, 0)]) ∨
      (opB (cut e).1 = true ∧ ∃ p q, Wf n (cut e).2.1 p ∧ Wf n (cut e).2.2 q ∧ ps = p ++ q ++ [((cut e).1, 0)])

/-- Names a row a row that is not ahead of it? -/
def rch (row : Int) : List UInt8 → Bool
  | [] => false
  | c :: r => (oldB c.toNat && (match r with | [] => false | d :: _ => decide (row ≤ (d.toNat : Int) - 48))) || rch row r
/-- Behind $ and < a digit stands. -/
def oldDig : List UInt8 → Prop
  | [] => True
  | c :: r => (oldB c.toNat = true → match r with | [] => True | d :: _ => digB d.toNat = true) ∧ oldDig r

/-- The up to two digits that a text begins with. -/
def dg2 (r : List UInt8) : List UInt8 := (r.take 2).takeWhile fun c => digB c.toNat
/-- Names a text an account of which q is true? -/
def strg (q : Int → Bool) : List UInt8 → Bool
  | [] => false
  | c :: r => (selB c.toNat && q (val (dg2 r))) || strg q r
def selq (q : Int → Bool) (ps : List Pt) : Bool := ps.any fun p => selB p.1 && q p.2
theorem strg_cons_not {q : Int → Bool} {c : UInt8} (r : List UInt8) (h : selB c.toNat = false) : strg q (c :: r) = strg q r := by simp [strg, h]
theorem selq_append (q : Int → Bool) (p r : List Pt) : selq q (p ++ r) = (selq q p || selq q r) := by simp [selq]
theorem selq_op (q : Int → Bool) (o : Int) (h : selB o = false) : selq q [(o, 0)] = false := by simp [selq, h]

theorem opd_op {o : Int} (h : opB o = true) : opdB o = false ∧ (o == 126) = false := by
  simp [opB] at h; rcases h with ((rfl | rfl) | rfl) | rfl <;> exact ⟨rfl, rfl⟩

theorem cut_le (l : List UInt8) : (cut l).2.1.length ≤ l.length ∧ (cut l).2.2.length ≤ l.length := by
  unfold cut
  split
  · exact ⟨by simp; omega, by simp⟩
  · split
    · exact ⟨by simp, by simp⟩
    · split
      · exact ⟨by simp, by simp; omega⟩
      · exact ⟨by simp, by simp⟩
theorem kEval_leaf (rows : List Int) (p : Pt) (q : List Pt) (st : List Int) (h : opdB p.1 = true) : kEval rows ([p] ++ q) st = kEval rows q (leafK rows p :: st) := by
  simp [kEval, h]
theorem kEval_neg (rows : List Int) (p q : List Pt) (k : Int) (h : ∀ q st, kEval rows (p ++ q) st = kEval rows q (k :: st)) (st : List Int) : kEval rows (p ++ [(126, 0)] ++ q) st = kEval rows q (k :: st) := by
  rw [List.append_assoc, h]; rfl
theorem kEval_bin (rows : List Int) (o : Int) (ho : opB o = true) (p q r : List Pt) (a b : Int) (hp : ∀ q st, kEval rows (p ++ q) st = kEval rows q (a :: st)) (hq : ∀ r st, kEval rows (q ++ r) st = kEval rows r (b :: st)) (st : List Int) :
    kEval rows (p ++ q ++ [(o, 0)] ++ r) st = kEval rows r (joinK o a b :: st) := by
  rw [List.append_assoc, List.append_assoc, hp, hq]
  have := opd_op ho
  simp [kEval, this.1, this.2]

end Db
namespace Db

theorem splitGo_plain (c : UInt8) (a : List UInt8) (h : ∀ x ∈ a, x ≠ c) : ∀ acc cur r, splitGo c acc cur (a ++ r) = splitGo c acc (cur ++ a) r := by
  induction a with
  | nil => intro acc cur r; simp
  | cons x t ih =>
    intro acc cur r
    simp only [List.cons_append, splitGo]
    rw [if_neg (h x (by simp)), ih (fun y hy => h y (by simp [hy]))]
    simp
theorem splitGo_acc (c : UInt8) (l : List UInt8) : ∀ acc cur, splitGo c acc cur l = acc ++ splitGo c [] cur l := by
  induction l with
  | nil => intro acc cur; simp [splitGo]
  | cons x t ih =>
    intro acc cur
    simp only [splitGo]
    split
    · rw [ih, ih ([] ++ [cur])]; simp
    · exact ih _ _
theorem split_one (c : UInt8) (a : List UInt8) (h : ∀ x ∈ a, x ≠ c) : split a c = [a] := by
  have := splitGo_plain c a h [] [] []
  simp only [List.append_nil, List.nil_append] at this
  unfold split; rw [this]; rfl
theorem split_cons (c : UInt8) (a r : List UInt8) (h : ∀ x ∈ a, x ≠ c) : split (a ++ c :: r) c = a :: split r c := by
  unfold split
  rw [splitGo_plain c a h]
  simp only [splitGo, if_true, List.nil_append]
  rw [splitGo_acc]; rfl
theorem split_two (c : UInt8) (a b : List UInt8) (ha : ∀ x ∈ a, x ≠ c) (hb : ∀ x ∈ b, x ≠ c) : split (a ++ c :: b) c = [a, b] := by
  rw [split_cons c a b ha, split_one c b hb]
theorem splitGo_le (c : UInt8) (l : List UInt8) : ∀ acc cur (m : Nat), (∀ p ∈ acc, p.length ≤ m) → cur.length + l.length ≤ m → (∀ p ∈ splitGo c acc cur l, p.length ≤ m) := by
  induction l with
  | nil =>
    intro acc cur m ha hc p hp
    simp [splitGo] at hp
    rcases hp with hp | rfl
    · exact ha p hp
    · simpa using hc
  | cons x t ih =>
    intro acc cur m ha hc
    simp only [splitGo]
    simp only [List.length_cons] at hc
    split
    · refine ih _ _ m ?_ (by simp; omega)
      intro p hp
      simp at hp
      rcases hp with hp | rfl
      · exact ha p hp
      · omega
    · exact ih _ _ m ha (by simp; omega)
theorem split_le (l : List UInt8) (c : UInt8) : ∀ p ∈ split l c, p.length ≤ l.length := splitGo_le c l [] [] l.length (by simp) (by simp)
theorem splitGo_len (c : UInt8) (l : List UInt8) : ∀ acc cur, (splitGo c acc cur l).length ≤ acc.length + l.length + 1 := by
  induction l with
  | nil => intro acc cur; simp [splitGo]
  | cons x t ih =>
    intro acc cur
    simp only [splitGo]
    split
    · have := ih (acc ++ [cur]) []
      simp at this ⊢; omega
    · have := ih acc (cur ++ [x])
      simp at this ⊢; omega
theorem split_len (l : List UInt8) (c : UInt8) : (split l c).length ≤ l.length + 1 := by
  have := splitGo_len c l [] []
  unfold split; simpa using this

/-- The digits of a day. -/
def dayS (d : List UInt8) : Prop := 1 ≤ d.length ∧ d.length ≤ 3 ∧ ∀ c ∈ d, digB c.toNat = true
theorem dayS_ne {d : List UInt8} (h : dayS d) (c : UInt8) (hc : digB c.toNat = false) : ∀ x ∈ d, x ≠ c := by
  intro x hx e
  subst e
  rw [h.2.2 x hx] at hc
  cases hc
/-- A report by its form, without its blanks: periods, rows. -/
structure Sht (l : List UInt8) (pd : List (List UInt8 × List UInt8)) (rows : List (List UInt8)) : Prop where
  parts : ∃ x y, split (bare l) 124 = [x, y] ∧ split x 44 = pd.map (fun p => p.1 ++ 45 :: p.2) ∧ split y 59 = rows
  days : ∀ p ∈ pd, dayS p.1 ∧ dayS p.2

end Db
namespace Db

/-- The first period that ends ahead of its beginning; -1: none. -/
def badP (i : Int) : List (Int × Int) → Int
  | [] => -1
  | p :: r => if p.2 < p.1 then i else badP (i + 1) r
/-- Names a row, by its parts, one that is not ahead of it? -/
def nameB (row : Int) (ps : List Pt) : Bool := ps.any fun p => oldB p.1 && decide (row ≤ p.2)
def badN (i : Int) : List (List Pt) → Int
  | [] => -1
  | ps :: r => if nameB i ps then i else badN (i + 1) r
/-- The kind of a row by its parts. -/
def kindP (kinds : List Int) (ps : List Pt) : Int := (kEval kinds ps []).headD 0
def badK (i : Int) (kinds : List Int) : List (List Pt) → Int
  | [] => -1
  | ps :: r => if kindP kinds ps == 0 then i else badK (i + 1) (kinds ++ [kindP kinds ps]) r
/-- The error and the place. -/
def outc (pd : List (Int × Int)) (pss : List (List Pt)) : Int × Int :=
  if 4 < pd.length ∨ 8 < pss.length then (3, 0)
  else if 0 ≤ badP 0 pd then (4, badP 0 pd)
  else if 0 ≤ badN 0 pss then (5, badN 0 pss)
  else if 0 ≤ badK 0 [] pss then (6, badK 0 [] pss)
  else (0, 0)

/-- A row as a text, and its parts. -/
structure RowOk (e : List UInt8) (ps : List Pt) : Prop where
  wf : ∃ n, Wf n e ps
  old : oldDig e
  rch : ∀ row, rch row e = nameB row ps
  sel : ∀ q, strg q e = selq q ps
  len : e.length ≤ 200
  pos : ∀ p ∈ ps, 0 ≤ p.2
/-- A report by its form: its periods' digits, its rows, their parts. -/
structure Form (l : List UInt8) (pd : List (List UInt8 × List UInt8)) (rows : List (List UInt8)) (pss : List (List Pt)) : Prop where
  plc : plc 0 0 0 0 l = -1
  sht : Sht l pd rows
  len : rows.length = pss.length
  row : ∀ (i : Nat) e ps, rows[i]? = some e → pss[i]? = some ps → RowOk e ps
def pdv (pd : List (List UInt8 × List UInt8)) : List (Int × Int) := pd.map fun p => (val p.1, val p.2)

theorem badP_step {i : Nat} {pd : List (Int × Int)} {p : Int × Int} (h : pd[i]? = some p) : badP i (pd.drop i) = if p.2 < p.1 then (i : Int) else badP ((i + 1 : Nat) : Int) (pd.drop (i + 1)) := by
  obtain ⟨hi, rfl⟩ := List.getElem?_eq_some_iff.1 h
  rw [List.drop_eq_getElem_cons hi]; rfl
theorem badN_step {i : Nat} {pss : List (List Pt)} {p : List Pt} (h : pss[i]? = some p) : badN i (pss.drop i) = if nameB i p then (i : Int) else badN ((i + 1 : Nat) : Int) (pss.drop (i + 1)) := by
  obtain ⟨hi, rfl⟩ := List.getElem?_eq_some_iff.1 h
  rw [List.drop_eq_getElem_cons hi]; rfl
theorem badK_step {i : Nat} {pss : List (List Pt)} {p : List Pt} (kinds : List Int) (h : pss[i]? = some p) : badK i kinds (pss.drop i) = if kindP kinds p == 0 then (i : Int) else badK ((i + 1 : Nat) : Int) (kinds ++ [kindP kinds p]) (pss.drop (i + 1)) := by
  obtain ⟨hi, rfl⟩ := List.getElem?_eq_some_iff.1 h
  rw [List.drop_eq_getElem_cons hi]; rfl
/-- No name reaches too far: each row's names are ahead of it. -/
theorem badN_all (pss : List (List Pt)) : ∀ i : Int, 0 ≤ i → badN i pss < 0 → ∀ (j : Nat) ps, pss[j]? = some ps → nameB (i + j) ps = false := by
  induction pss with
  | nil => intro i _ _ j ps h; simp at h
  | cons x t ih =>
    intro i hi hb j ps h
    unfold badN at hb
    split at hb
    · omega
    · rename_i hx
      cases j with
      | zero => simp at h; subst h; simpa using hx
      | succ j =>
        have := ih (i + 1) (by omega) hb j ps (by simpa using h)
        rw [show i + ((j + 1 : Nat) : Int) = i + 1 + j by omega]
        exact this
theorem kindP_of {kinds : List Int} {ps : List Pt} {k : Int} (h : ∀ q st, kEval kinds (ps ++ q) st = kEval kinds q (k :: st)) : kindP kinds ps = k := by
  have := h [] []
  rw [List.append_nil] at this
  unfold kindP; rw [this]; rfl
theorem nameB_lt {row : Int} {ps : List Pt} (h : nameB row ps = false) (hp : ∀ p ∈ ps, 0 ≤ p.2) (n : Nat) (hn : row = n) : ∀ p ∈ ps, oldB p.1 = true → p.2.toNat < n := by
  intro p hp1 ho
  unfold nameB at h
  rw [List.any_eq_false] at h
  have := h p hp1
  simp [ho] at this
  have := hp p hp1
  omega

end Db
namespace Db

/-- How many are on the pile; none: too few. -/
def dpt : List Pt → Nat → Option Nat
  | [], c => some c
  | p :: r, c => if opdB p.1 then dpt r (c + 1) else if p.1 == 126 then (if 1 ≤ c then dpt r c else none) else if opB p.1 && decide (2 ≤ c) then dpt r (c - 1) else none
theorem opnd_opd {e : List UInt8} {ps : List Pt} (h : Opnd e ps) : ∃ p, ps = [p] ∧ opdB p.1 = true := by
  rcases h with ⟨_, _, _, rfl⟩ | ⟨c, ds, _, _, _, hs, rfl⟩
  · exact ⟨_, rfl, rfl⟩
  · refine ⟨_, rfl, ?_⟩
    unfold opdB
    rcases hs with ⟨hs, _⟩ | ⟨hs, _⟩ <;> simp [hs]
theorem wf_dpt {n : Nat} : ∀ {e : List UInt8} {ps : List Pt}, Wf n e ps → ∀ q c, dpt (ps ++ q) c = dpt q (c + 1) := by
  induction n with
  | zero => intro e ps h; exact absurd h (by simp [Wf])
  | succ n ih =>
    intro e ps h q c
    rcases h with ⟨_, h⟩ | ⟨_, h2⟩ | ⟨_, p, h2, rfl⟩ | ⟨h1, p, r, h2, h3, rfl⟩
    · obtain ⟨p, rfl, hp⟩ := opnd_opd h
      simp [dpt, hp]
    · exact ih h2 q c
    · rw [List.append_assoc, ih h2]
      show dpt ((126, 0) :: q) (c + 1) = _
      simp [dpt, opdB, selB, oldB]
    · rw [List.append_assoc, List.append_assoc, ih h2, ih h3]
      have := opd_op h1
      show dpt (((cut e).1, 0) :: q) (c + 1 + 1) = _
      simp [dpt, this.1, this.2, h1]
theorem wf_kind {n : Nat} (rows : List Int) : ∀ {e : List UInt8} {ps : List Pt}, Wf n e ps → ∃ k, ∀ q st, kEval rows (ps ++ q) st = kEval rows q (k :: st) := by
  induction n with
  | zero => intro e ps h; exact absurd h (by simp [Wf])
  | succ n ih =>
    intro e ps h
    rcases h with ⟨_, h⟩ | ⟨_, h2⟩ | ⟨_, p, h2, rfl⟩ | ⟨h1, p, r, h2, h3, rfl⟩
    · obtain ⟨p, rfl, hp⟩ := opnd_opd h
      exact ⟨_, fun q st => kEval_leaf rows p q st hp⟩
    · exact ih h2
    · obtain ⟨k, hk⟩ := ih h2
      exact ⟨k, fun q st => kEval_neg rows p q k hk st⟩
    · obtain ⟨a, ha⟩ := ih h2
      obtain ⟨b, hb⟩ := ih h3
      exact ⟨_, fun q st => kEval_bin rows _ h1 p r q a b ha hb st⟩
/-- What takes what it does not take stays so. -/
theorem zero_stays (rows : List Int) (ps : List Pt) : ∀ st, (0 : Int) ∈ st → (0 : Int) ∈ kEval rows ps st := by
  induction ps with
  | nil => intro st h; exact h
  | cons p r ih =>
    intro st h
    unfold kEval
    split
    · exact ih _ (by simp [h])
    · split
      · exact ih _ h
      · match st, h with
        | [], h => exact h
        | [x], h => exact h
        | y :: x :: t, h =>
          refine ih _ ?_
          simp at h ⊢
          rcases h with h | h | h
          · left; subst h; simp [joinK]
          · left; subst h; simp [joinK]
          · right; exact h
/-- The document's kind of a kind of the program (0: a number, 1: money). -/
def toR (k : Int) : Int := 2 - k
/-- What joinKinds answers. -/
def jk (o l r : Int) : Int × Bool :=
  if o == 42 then (if l == 1 && r == 1 then (0, false) else if l == 1 || r == 1 then (1, true) else (0, true))
  else if o == 47 then (if l == 0 && r == 1 then (0, false) else if l == 1 && r == 0 then (1, true) else (0, true))
  else if l != r then (0, false) else (l, true)
theorem jk_join (o l r : Int) (ho : opB o = true) (hl : l = 0 ∨ l = 1) (hr : r = 0 ∨ r = 1) : joinK o (toR l) (toR r) = (if (jk o l r).2 then toR (jk o l r).1 else 0) ∧ ((jk o l r).1 = 0 ∨ (jk o l r).1 = 1) := by
  simp [opB] at ho
  rcases ho with ((rfl | rfl) | rfl) | rfl <;> rcases hl with rfl | rfl <;> rcases hr with rfl | rfl <;> decide

end Db
namespace Db

/-- The cell of an operand. -/
def opv (E : Pt → Cl) (p : Pt) : Cl := if p.1 == 48 then (p.2, 0) else E p
/-- One word over a pile; none: there are too few on it. -/
def vStep (E : Pt → Cl) : Option (List Cl) → Pt → Option (List Cl)
  | none, _ => none
  | some st, p => if opdB p.1 then some (opv E p :: st) else if p.1 == 126 then
      match st with
      | x :: t => some (don 45 (0, 0) x :: t)
      | [] => none
    else match st with
      | y :: x :: t => some (don p.1 x y :: t)
      | _ => none
/-- Words, the last one ahead, over a pile. -/
def vev (E : Pt → Cl) (rs : List Pt) (s : Option (List Cl)) : Option (List Cl) := rs.foldr (fun p a => vStep E a p) s
theorem vev_cons (E : Pt → Cl) (p : Pt) (rs : List Pt) (s : Option (List Cl)) : vev E (p :: rs) s = vStep E (vev E rs s) p := rfl
theorem vev_rev (E : Pt → Cl) (ps : List Pt) (s : Option (List Cl)) : vev E ps.reverse s = ps.foldl (vStep E) s := by
  unfold vev; rw [List.foldr_reverse]
theorem vStep_num (E : Pt → Cl) (n : Int) (st : List Cl) : vStep E (some st) (48, n) = some ((n, 0) :: st) := rfl

/-- What is worked out at once: the words that come of it, the last one ahead. -/
def fld (p : Pt) (rs : List Pt) : Option (List Pt) :=
  if opdB p.1 then none else if p.1 == 126 then
    match rs with
    | y :: t => if y.1 == 48 && (don 45 (0, 0) (y.2, 0)).2 == 0 then some ((48, (don 45 (0, 0) (y.2, 0)).1) :: t) else none
    | [] => none
  else match rs with
    | y :: x :: t => if y.1 == 48 && x.1 == 48 && (don p.1 (x.2, 0) (y.2, 0)).2 == 0 then some ((48, (don p.1 (x.2, 0) (y.2, 0)).1) :: t) else none
    | _ => none
def lay (rs : List Pt) (p : Pt) : List Pt := (fld p rs).getD (p :: rs)
/-- The code of a row, the last word ahead. -/
def cod (ps : List Pt) : List Pt := ps.foldl lay []
/-- Nothing is left that could be worked out at once. -/
def Nf : List Pt → Prop
  | [] => True
  | p :: t => fld p t = none ∧ Nf t

/-- The two ways of a word. -/
theorem fld_some {p : Pt} {rs qs : List Pt} (h : fld p rs = some qs) : ∃ v t, qs = (48, v) :: t ∧ opdB p.1 = false ∧
    ((p.1 = 126 ∧ ∃ y, rs = (48, y) :: t ∧ don 45 (0, 0) (y, 0) = (v, 0)) ∨ ((p.1 == 126) = false ∧ ∃ x y, rs = (48, y) :: (48, x) :: t ∧ don p.1 (x, 0) (y, 0) = (v, 0))) := by
  unfold fld at h
  cases ho : opdB p.1 with
  | true => rw [ho] at h; cases h
  | false =>
    rw [ho] at h
    simp only [Bool.false_eq_true, if_false] at h
    cases hp : (p.1 == 126) with
    | true =>
      rw [hp] at h
      simp only [if_true] at h
      cases rs with
      | nil => cases h
      | cons y t =>
        obtain ⟨y1, y2⟩ := y
        simp only at h
        split at h
        · rename_i hc
          simp only [Bool.and_eq_true, beq_iff_eq] at hc
          obtain ⟨rfl, hc⟩ := hc
          cases h
          exact ⟨_, t, rfl, rfl, .inl ⟨by simpa using hp, y2, rfl, Prod.ext rfl hc⟩⟩
        · cases h
    | false =>
      rw [hp] at h
      simp only [Bool.false_eq_true, if_false] at h
      cases rs with
      | nil => cases h
      | cons y t =>
        cases t with
        | nil => cases h
        | cons x t =>
          obtain ⟨y1, y2⟩ := y
          obtain ⟨x1, x2⟩ := x
          simp only at h
          split at h
          · rename_i hc
            simp only [Bool.and_eq_true, beq_iff_eq] at hc
            obtain ⟨⟨rfl, rfl⟩, hc⟩ := hc
            cases h
            exact ⟨_, t, rfl, rfl, .inr ⟨rfl, x2, y2, rfl, Prod.ext rfl hc⟩⟩
          · cases h
theorem vev_lay (E : Pt → Cl) (rs : List Pt) (p : Pt) (s : Option (List Cl)) : vev E (lay rs p) s = vStep E (vev E rs s) p := by
  unfold lay
  cases h : fld p rs with
  | none => rfl
  | some qs =>
    obtain ⟨v, t, rfl, ho, ⟨hp, y, rfl, hv⟩ | ⟨hp, x, y, rfl, hv⟩⟩ := fld_some h
    · simp only [Option.getD_some, vev_cons]
      cases vev E t s with
      | none => rfl
      | some st => rw [vStep_num, vStep_num]; simp [vStep, hp, hv, show opdB 126 = false from rfl]
    · simp only [Option.getD_some, vev_cons]
      cases vev E t s with
      | none => rfl
      | some st => rw [vStep_num, vStep_num, vStep_num]; simp [vStep, ho, hp, hv]
theorem vev_cod (E : Pt → Cl) (s : Option (List Cl)) : ∀ (ps rs : List Pt), vev E (ps.foldl lay rs) s = ps.foldl (vStep E) (vev E rs s)
  | [], _ => rfl
  | p :: ps, rs => by rw [List.foldl_cons, List.foldl_cons, vev_cod E s ps, vev_lay]
theorem nf_lay {rs : List Pt} (p : Pt) (h : Nf rs) : Nf (lay rs p) := by
  unfold lay
  cases hf : fld p rs with
  | none => exact ⟨hf, h⟩
  | some qs =>
    obtain ⟨v, t, rfl, ho, ⟨hp, y, rfl, hv⟩ | ⟨hp, x, y, rfl, hv⟩⟩ := fld_some hf
    · exact ⟨rfl, h.2⟩
    · exact ⟨rfl, h.2.2⟩
theorem nf_cod : ∀ (ps : List Pt) {rs : List Pt}, Nf rs → Nf (ps.foldl lay rs)
  | [], _, h => h
  | p :: ps, _, h => nf_cod ps (nf_lay p h)
theorem len_lay (rs : List Pt) (p : Pt) : (lay rs p).length ≤ rs.length + 1 := by
  unfold lay
  cases hf : fld p rs with
  | none => simp
  | some qs =>
    obtain ⟨v, t, rfl, ho, ⟨hp, y, rfl, hv⟩ | ⟨hp, x, y, rfl, hv⟩⟩ := fld_some hf <;> simp <;> omega
theorem len_cod : ∀ (ps rs : List Pt), (ps.foldl lay rs).length ≤ rs.length + ps.length
  | [], rs => by simp
  | p :: ps, rs => by
    have h1 := len_cod ps (lay rs p)
    have h2 := len_lay rs p
    rw [List.foldl_cons, List.length_cons]; omega
theorem all_lay {P : Pt → Prop} (hP : ∀ v, inR v = true → P (48, v)) {rs : List Pt} {p : Pt} (h : ∀ x ∈ rs, P x) (hp : P p) : ∀ x ∈ lay rs p, P x := by
  unfold lay
  have hd : ∀ {o : Int} {x y v : Int}, don o (x, 0) (y, 0) = (v, 0) → inR v = true := by
    intro o x y v e
    have hc : ∀ u, chk u = (v, 0) → inR v = true := by
      intro u e
      unfold chk at e
      split at e
      · rename_i hu; cases e; exact hu
      · cases e
    unfold don at e
    simp only [beq_self_eq_true, if_true] at e
    repeat' split at e
    all_goals first | exact hc _ e | cases e
  cases hf : fld p rs with
  | none =>
    intro x hx
    rcases List.mem_cons.1 hx with rfl | hx
    · exact hp
    · exact h x hx
  | some qs =>
    obtain ⟨v, t, rfl, ho, ⟨hp, y, rfl, hv⟩ | ⟨hp, x, y, rfl, hv⟩⟩ := fld_some hf
    · intro x hx
      rcases List.mem_cons.1 hx with rfl | hx
      · exact hP _ (hd hv)
      · exact h x (by simp [hx])
    · intro x hx
      rcases List.mem_cons.1 hx with rfl | hx
      · exact hP _ (hd hv)
      · exact h x (by simp [hx])
theorem all_cod {P : Pt → Prop} (hP : ∀ v, inR v = true → P (48, v)) : ∀ (ps : List Pt) {rs : List Pt}, (∀ x ∈ rs, P x) → (∀ x ∈ ps, P x) → ∀ x ∈ ps.foldl lay rs, P x
  | [], _, h, _ => h
  | p :: ps, _, h, k => all_cod hP ps (all_lay hP h (k p (by simp))) (fun x hx => k x (by simp [hx]))

/-- Parts that come to one cell. -/
def ValR (E : Pt → Cl) (ps : List Pt) (c : Cl) : Prop := ∀ st, ps.foldl (vStep E) (some st) = some (c :: st)
theorem valR_leaf (E : Pt → Cl) {p : Pt} (h : opdB p.1 = true) : ValR E [p] (opv E p) := fun st => by simp [vStep, h]
theorem valR_neg {E : Pt → Cl} {ps : List Pt} {c : Cl} (h : ValR E ps c) : ValR E (ps ++ [(126, 0)]) (don 45 (0, 0) c) := fun st => by
  rw [List.foldl_append, h]; rfl
theorem valR_bin {E : Pt → Cl} {p q : List Pt} {x y : Cl} {o : Int} (ho : opB o = true) (hp : ValR E p x) (hq : ValR E q y) : ValR E (p ++ q ++ [(o, 0)]) (don o x y) := fun st => by
  rw [List.foldl_append, List.foldl_append, hp, hq]
  have := opd_op ho
  simp [vStep, this.1, this.2]
theorem ValR.uniq {E : Pt → Cl} {ps : List Pt} {x y : Cl} (h : ValR E ps x) (k : ValR E ps y) : x = y := by
  have h1 := h []
  rw [k []] at h1
  simpa using h1.symm
theorem wf_val (E : Pt → Cl) {n : Nat} : ∀ {e : List UInt8} {ps : List Pt}, Wf n e ps → ∃ c, ValR E ps c := by
  induction n with
  | zero => intro e ps h; exact absurd h (by simp [Wf])
  | succ n ih =>
    intro e ps h
    rcases h with ⟨_, h⟩ | ⟨_, h2⟩ | ⟨_, p, h2, rfl⟩ | ⟨h1, p, r, h2, h3, rfl⟩
    · obtain ⟨p, rfl, hp⟩ := opnd_opd h
      exact ⟨_, valR_leaf E hp⟩
    · exact ih h2
    · obtain ⟨x, hx⟩ := ih h2
      exact ⟨_, valR_neg hx⟩
    · obtain ⟨x, hx⟩ := ih h2
      obtain ⟨y, hy⟩ := ih h3
      exact ⟨_, valR_bin h1 hx hy⟩
/-- A row's code comes to what the row comes to. -/
theorem cod_val {E : Pt → Cl} {ps : List Pt} {c : Cl} (h : ValR E ps c) : (cod ps).reverse.foldl (vStep E) (some []) = some [c] := by
  have := vev_cod E (some []) ps []
  rw [← vev_rev, List.reverse_reverse]
  exact this.trans (h [])
end Db
namespace Db

/-- Is account a, or one above it (as far as f steps up), account n? -/
def wth (acs : List Ac) (n : Int) : Nat → Int → Bool
  | 0, _ => false
  | f + 1, a => if a < 0 then false else if a == n then true else wth acs n f (acs.getD a.toNat (0, false)).1
/-- What lines come to, of those accounts of which q is true: the sum, how many. -/
def tkL (q : Int → Bool) : List Ln → Int × Int
  | [] => (0, 0)
  | l :: r => if q l.1 then (l.2 + (tkL q r).1, 1 + (tkL q r).2) else tkL q r
def tkT (q : Int → Bool) (a b : Int) : List Tn → Int × Int
  | [] => (0, 0)
  | t :: r => if a ≤ t.2.1 ∧ t.2.1 ≤ b then ((tkL q t.2.2).1 + (tkT q a b r).1, (tkL q t.2.2).2 + (tkT q a b r).2) else tkT q a b r
def inA (s : Bk) (sel n a : Int) : Bool := if sel == 33 then a == n else wth s.acs n 16 a
/-- The cell of an operand with a sign, in period k; cells: those of the rows ahead. -/
def opE (s : Bk) (pd : List (Int × Int)) (cells : List (List Cl)) (k : Nat) (p : Pt) : Cl :=
  if p.1 == 36 then (cells.getD p.2.toNat []).getD k (0, 0)
  else if p.1 == 60 then (if k = 0 then (0, 0) else (cells.getD p.2.toNat []).getD (k - 1) (0, 0))
  else if p.1 == 35 then ((tkT (inA s p.1 p.2) (pd.getD k (0, 0)).1 (pd.getD k (0, 0)).2 s.txs).2, 0)
  else ((tkT (inA s p.1 p.2) (pd.getD k (0, 0)).1 (pd.getD k (0, 0)).2 s.txs).1, 0)
/-- The cell of parts. -/
def celO (o : Option (List Cl)) : Cl := (o.getD []).headD (0, 0)
def cel (E : Pt → Cl) (ps : List Pt) : Cl := celO (ps.foldl (vStep E) (some []))
def rowC (s : Bk) (pd : List (Int × Int)) (cells : List (List Cl)) (ps : List Pt) : List Cl := (List.range pd.length).map fun k => cel (opE s pd cells k) ps
def shC (s : Bk) (pd : List (Int × Int)) (pss : List (List Pt)) : List (List Cl) := pss.foldl (fun cells ps => cells ++ [rowC s pd cells ps]) []

theorem cel_val {E : Pt → Cl} {ps : List Pt} {c : Cl} (h : ValR E ps c) : cel E ps = c := by
  unfold cel; rw [h []]; rfl
theorem val_cel {E : Pt → Cl} {ps : List Pt} {n : Nat} {e : List UInt8} (h : Wf n e ps) : ValR E ps (cel E ps) := by
  obtain ⟨c, hc⟩ := wf_val E h
  rw [cel_val hc]; exact hc

/-- Sums and counts stay small. -/
theorem tkL_le (q : Int → Bool) (ls : List Ln) (h : ∀ l ∈ ls, -1000000000000 ≤ l.2 ∧ l.2 ≤ 1000000000000) :
    -(1000000000000 * (ls.length : Int)) ≤ (tkL q ls).1 ∧ (tkL q ls).1 ≤ 1000000000000 * (ls.length : Int) ∧ 0 ≤ (tkL q ls).2 ∧ (tkL q ls).2 ≤ ls.length := by
  induction ls with
  | nil => simp [tkL]
  | cons l r ih =>
    have h1 := h l (by simp)
    have h2 := ih (fun x hx => h x (by simp [hx]))
    simp only [tkL, List.length_cons]
    split <;> (try simp only) <;> omega
theorem tkT_le (q : Int → Bool) (a b : Int) (ts : List Tn) (h : ∀ t ∈ ts, t.2.2.length ≤ 4 ∧ ∀ l ∈ t.2.2, -1000000000000 ≤ l.2 ∧ l.2 ≤ 1000000000000) :
    -(4000000000000 * (ts.length : Int)) ≤ (tkT q a b ts).1 ∧ (tkT q a b ts).1 ≤ 4000000000000 * (ts.length : Int) ∧ 0 ≤ (tkT q a b ts).2 ∧ (tkT q a b ts).2 ≤ 4 * (ts.length : Int) := by
  induction ts with
  | nil => simp [tkT]
  | cons t r ih =>
    have h1 := h t (by simp)
    have h2 := ih (fun x hx => h x (by simp [hx]))
    have h3 := tkL_le q t.2.2 h1.2
    simp only [tkT, List.length_cons]
    split <;> (try simp only) <;> omega
theorem tkL_step {q : Int → Bool} {l : List Ln} {j : Nat} {t : Ln} (h : l[j]? = some t) : tkL q (l.drop j) = if q t.1 then (t.2 + (tkL q (l.drop (j + 1))).1, 1 + (tkL q (l.drop (j + 1))).2) else tkL q (l.drop (j + 1)) := by
  obtain ⟨hi, rfl⟩ := List.getElem?_eq_some_iff.1 h
  rw [List.drop_eq_getElem_cons hi]; rfl
theorem tkT_step {q : Int → Bool} {a b : Int} {l : List Tn} {j : Nat} {t : Tn} (h : l[j]? = some t) : tkT q a b (l.drop j) = if a ≤ t.2.1 ∧ t.2.1 ≤ b then ((tkL q t.2.2).1 + (tkT q a b (l.drop (j + 1))).1, (tkL q t.2.2).2 + (tkT q a b (l.drop (j + 1))).2) else tkT q a b (l.drop (j + 1)) := by
  obtain ⟨hi, rfl⟩ := List.getElem?_eq_some_iff.1 h
  rw [List.drop_eq_getElem_cons hi]; rfl
/-- Only the accounts of the lines count. -/
theorem tkL_congr {q r : Int → Bool} (ls : List Ln) (h : ∀ l ∈ ls, q l.1 = r l.1) : tkL q ls = tkL r ls := by
  induction ls with
  | nil => rfl
  | cons l t ih => simp only [tkL, h l (by simp), ih (fun x hx => h x (by simp [hx]))]
theorem tkT_congr {q r : Int → Bool} {a b : Int} (ts : List Tn) (h : ∀ t ∈ ts, ∀ l ∈ t.2.2, q l.1 = r l.1) : tkT q a b ts = tkT r a b ts := by
  induction ts with
  | nil => rfl
  | cons t u ih => simp only [tkT, tkL_congr t.2.2 (h t (by simp)), ih (fun x hx => h x (by simp [hx]))]
/-- All lines of an account are those of all days. -/
theorem tkL_bal (n : Int) (ls : List Ln) : (tkL (fun a => a == n) ls).1 = balL n ls := by
  induction ls with
  | nil => rfl
  | cons l t ih =>
    simp only [tkL, balL]
    split
    · rw [← ih]
    · rw [← ih]; simp
theorem tkT_bal (n : Int) (ts : List Tn) (h : ∀ t ∈ ts, 0 ≤ t.2.1 ∧ t.2.1 ≤ 999) : (tkT (fun a => a == n) 0 999 ts).1 = balT n ts := by
  induction ts with
  | nil => rfl
  | cons t u ih =>
    simp only [tkT, balT]
    rw [if_pos (h t (by simp)), ← tkL_bal, ← ih (fun x hx => h x (by simp [hx]))]

/-- The accounts that are chosen, from the first on: n and all below it. -/
def chsB (n : Int) (ch : List Bool) (c : Ac) : Bool := (decide (0 ≤ c.1) && decide (c.1 < ch.length) && ch.getD c.1.toNat false) || decide ((ch.length : Int) = n)
def chs (n : Int) (acs : List Ac) : List Bool := acs.foldl (fun ch c => ch ++ [chsB n ch c]) []
theorem chs_snoc (n : Int) (acs : List Ac) (c : Ac) : chs n (acs ++ [c]) = chs n acs ++ [chsB n (chs n acs) c] := by simp [chs]
theorem chs_len (n : Int) (acs : List Ac) : (chs n acs).length = acs.length := by
  have key : ∀ (l : List Ac) (ch : List Bool), (l.foldl (fun ch c => ch ++ [chsB n ch c]) ch).length = ch.length + l.length := by
    intro l
    induction l with
    | nil => intro ch; rfl
    | cons c t ih => intro ch; rw [List.foldl_cons, ih]; simp; omega
  have := key acs []
  simpa [chs] using this
theorem wth_at (acs : List Ac) (n : Int) (f : Nat) (a : Int) : wth acs n (f + 1) a = if a < 0 then false else if a == n then true else wth acs n f (acs.getD a.toNat (0, false)).1 := rfl
/-- More steps than there are accounts up to this one make no difference. -/
theorem wth_more (acs : List Ac) (n : Int) (ho : ∀ (i : Nat) c, acs[i]? = some c → c.1 < i) : ∀ (f g : Nat) (a : Int), a < f → a < g → a < acs.length → wth acs n f a = wth acs n g a := by
  intro f
  induction f with
  | zero => intro g a hf hg hl; cases g with
    | zero => rfl
    | succ g => simp only [wth]; rw [if_pos (by omega)]
  | succ f ih =>
    intro g a hf hg hl
    cases g with
    | zero => simp only [wth]; rw [if_pos (by omega)]
    | succ g =>
      simp only [wth]
      split
      · rfl
      · split
        · rfl
        · rename_i h0 h1
          obtain ⟨c, hc⟩ : ∃ c, acs[a.toNat]? = some c := ⟨acs[a.toNat]'(by omega), List.getElem?_eq_getElem (by omega)⟩
          have hlt := ho _ _ hc
          rw [List.getD_eq_getElem?_getD, hc, Option.getD_some]
          exact ih g c.1 (by omega) (by omega) (by omega)
theorem wth_take {acs : List Ac} {n : Int} {m : Nat} (ho : ∀ (i : Nat) c, acs[i]? = some c → c.1 < i) (hm : m ≤ acs.length) : ∀ (f : Nat) (a : Int), a < m → wth (acs.take m) n f a = wth acs n f a := by
  intro f
  induction f with
  | zero => intro a _; rfl
  | succ f ih =>
    intro a ha
    simp only [wth]
    split
    · rfl
    · split
      · rfl
      · rename_i h0 h1
        obtain ⟨c, hc⟩ : ∃ c, acs[a.toNat]? = some c := ⟨acs[a.toNat]'(by omega), List.getElem?_eq_getElem (by omega)⟩
        have hlt := ho _ _ hc
        have ht : (acs.take m)[a.toNat]? = some c := by rw [List.getElem?_take_of_lt (by omega)]; exact hc
        rw [List.getD_eq_getElem?_getD, List.getD_eq_getElem?_getD, hc, ht, Option.getD_some]
        exact ih c.1 (by omega)
theorem chs_get (acs : List Ac) (n : Int) (ho : ∀ (i : Nat) c, acs[i]? = some c → c.1 < i) (h16 : acs.length ≤ 16) : ∀ (m : Nat), m ≤ acs.length → ∀ i : Nat, i < m → (chs n (acs.take m)).getD i false = wth acs n 16 i := by
  intro m
  induction m with
  | zero => intro _ i hi; omega
  | succ m ih =>
    intro hm i hi
    have hml : m < acs.length := by omega
    obtain ⟨c, hc⟩ : ∃ c, acs[m]? = some c := ⟨acs[m], List.getElem?_eq_getElem hml⟩
    have ht : acs.take (m + 1) = acs.take m ++ [c] := by rw [List.take_add_one, hc]; rfl
    have hlen : (chs n (acs.take m)).length = m := by rw [chs_len, List.length_take]; omega
    rw [ht, chs_snoc]
    by_cases him : i < m
    · have h2 := ih (by omega) i him
      rw [List.getD_eq_getElem?_getD] at h2 ⊢
      rw [List.getElem?_append_left (by rw [hlen]; exact him)]
      exact h2
    · obtain rfl : i = m := by omega
      rw [List.getD_eq_getElem?_getD, List.getElem?_append_right (by rw [hlen]; exact Nat.le_refl _), hlen, Nat.sub_self]
      simp only [List.getElem?_cons_zero, Option.getD_some]
      have hord := ho _ _ hc
      unfold chsB
      rw [hlen]
      rw [show (16 : Nat) = 15 + 1 from rfl, wth_at, if_neg (by omega)]
      by_cases hn : (i : Int) = n
      · rw [if_pos (by simpa using hn)]; simp [hn]
      · rw [if_neg (by simpa using hn)]
        rw [Int.toNat_natCast, List.getD_eq_getElem?_getD (l := acs), hc, Option.getD_some]
        by_cases h0 : c.1 < 0
        · have : wth acs n 15 c.1 = false := by simp only [wth]; rw [if_pos h0]
          rw [this]
          simp [hn]; omega
        · have h2 := ih (by omega) c.1.toNat (by omega)
          rw [h2, show ((c.1.toNat : Nat) : Int) = c.1 by omega, wth_more acs n ho (15 + 1) 15 c.1 (by omega) (by omega) (by omega)]
          simp [hn]
          have a1 : 0 ≤ c.1 := by omega
          simp [a1, hord]
theorem chs_all {s : Bk} (h : BkGood s) (n : Int) (i : Nat) (hi : i < s.acs.length) : (chs n s.acs).getD i false = wth s.acs n 16 i := by
  have := chs_get s.acs n h.ord h.few s.acs.length (Nat.le_refl _) i hi
  rwa [List.take_length] at this
/-- What the program takes: by the list of those that are chosen. -/
def inC (ch : List Bool) (a : Int) : Bool := decide (0 ≤ a) && decide (a < ch.length) && ch.getD a.toNat false
def chO (n : Int) (m : Nat) : List Bool := (List.range m).map fun i : Nat => decide ((i : Int) = n)
theorem tk_chs {s : Bk} (h : BkGood s) (n a b : Int) : tkT (inC (chs n s.acs)) a b s.txs = tkT (wth s.acs n 16) a b s.txs := by
  refine tkT_congr _ ?_
  intro t ht l hl
  have h1 := (h.tx t ht).2.2.2.2.2 l hl
  have h2 := h.acc t ht l hl
  unfold inC
  have := chs_all h n l.1.toNat (by omega)
  rw [this, chs_len, show ((l.1.toNat : Nat) : Int) = l.1 by omega]
  have a1 : 0 ≤ l.1 := by omega
  simp [a1, h2]
theorem tk_chO {s : Bk} (h : BkGood s) (n a b : Int) : tkT (inC (chO n s.acs.length)) a b s.txs = tkT (fun x => x == n) a b s.txs := by
  refine tkT_congr _ ?_
  intro t ht l hl
  have h1 := (h.tx t ht).2.2.2.2.2 l hl
  have h2 := h.acc t ht l hl
  have a1 : 0 ≤ l.1 := by omega
  unfold inC chO
  have hl1 : l.1.toNat < s.acs.length := by omega
  simp [a1, h2, List.getD_eq_getElem?_getD, Bool.beq_eq_decide_eq]
  omega
def tkO (ok : Bool) (q : Int → Bool) (ls : List Ln) : Int × Int := if ok then tkL q ls else (0, 0)
theorem tkO_yes {ok : Bool} {q : Int → Bool} {l : List Ln} {j : Nat} {t : Ln} (h : l[j]? = some t) (hok : ok = true) (hq : q t.1 = true) : (tkO ok q (l.drop j)).1 = t.2 + (tkO ok q (l.drop (j + 1))).1 ∧ (tkO ok q (l.drop j)).2 = 1 + (tkO ok q (l.drop (j + 1))).2 := by
  unfold tkO
  rw [hok, if_pos rfl, if_pos rfl, tkL_step h, hq, if_pos rfl]
  exact ⟨rfl, rfl⟩
theorem tkO_no {ok : Bool} {q : Int → Bool} {l : List Ln} {j : Nat} {t : Ln} (h : l[j]? = some t) (hq : q t.1 = false ∨ ok = false) : (tkO ok q (l.drop j)).1 = (tkO ok q (l.drop (j + 1))).1 ∧ (tkO ok q (l.drop j)).2 = (tkO ok q (l.drop (j + 1))).2 := by
  unfold tkO
  rcases hq with hq | hq
  · rw [tkL_step h, hq]
    exact ⟨rfl, rfl⟩
  · rw [hq]; exact ⟨rfl, rfl⟩
theorem tkO_end (ok : Bool) (q : Int → Bool) (l : List Ln) : tkO ok q (l.drop l.length) = (0, 0) := by
  rw [List.drop_length]; unfold tkO; split <;> rfl
def inD (a b d : Int) : Bool := decide (a ≤ d) && decide (d ≤ b)
theorem tkT_O {q : Int → Bool} {a b : Int} {l : List Tn} {j : Nat} {t : Tn} (h : l[j]? = some t) : (tkT q a b (l.drop j)).1 = (tkO (inD a b t.2.1) q t.2.2).1 + (tkT q a b (l.drop (j + 1))).1 ∧ (tkT q a b (l.drop j)).2 = (tkO (inD a b t.2.1) q t.2.2).2 + (tkT q a b (l.drop (j + 1))).2 := by
  rw [tkT_step h]
  unfold tkO inD
  by_cases h1 : a ≤ t.2.1 ∧ t.2.1 ≤ b
  · rw [if_pos h1, if_pos (by simp [h1])]; exact ⟨rfl, rfl⟩
  · rw [if_neg h1, if_neg (by simpa using h1)]; simp
end Db
namespace Go.Proofs.YtdchbenfccofpabGreatDoor
open Go.RowKit Db

/-- Where a movement's loop stands: the answer's block, the movement's. -/
structure MvSt (w wr : World) (x c : Int) : Prop where
  res : Blk wr w.heap.size #[.int .i64 0, .int .i64 0] 170
  mv : Blk wr (w.heap.size + 1) #[.int .i64 x, .int .i64 c] 170
  bel : Below w.heap.size w wr
theorem MvSt.alloc {w wr : World} {x c : Int} (h : MvSt w wr x c) (o : Obj) : MvSt w (wr.alloc o) x c := ⟨h.res.alloc o, h.mv.alloc o, h.bel.alloc h.bel.size o⟩
theorem MvSt.add {w wr : World} {x c : Int} (h : MvSt w wr x c) (y d : Int) : MvSt w ((wr.setCell ⟨w.heap.size + 1, 0, none⟩ (.int .i64 y)).setCell ⟨w.heap.size + 1, 1, none⟩ (.int .i64 d)) y d := by
  refine ⟨(h.res.setOther _ _ (by simp)).setOther _ _ (by simp), ?_, (h.bel.setCell (by simp) _).setCell (by simp) _⟩
  have := (h.mv.set 0 (.int .i64 y)).set 1 (.int .i64 d)
  simpa using this
theorem MvSt.new (w : World) : MvSt w ((w.alloc (.cells #[.int .i64 0, .int .i64 0] 170)).alloc (.cells #[.int .i64 0, .int .i64 0] 170)) 0 0 := by
  refine ⟨(Blk.new _ _ _).alloc _, ?_, ((Below.refl _ _).alloc (Nat.le_refl _) _).alloc (by simp) _⟩
  have := Blk.new (w.alloc (.cells #[.int .i64 0, .int .i64 0] 170)) #[.int .i64 0, .int .i64 0] 170
  simpa using this
theorem inC_no {ch : List Bool} {a : Int} (h : a < 0 ∨ (ch.length : Int) ≤ a) : inC ch a = false := by
  unfold inC
  rcases h with h | h
  · have : ¬ 0 ≤ a := by omega
    simp [this]
  · have : ¬ a < ch.length := by omega
    simp [this]
theorem inC_at {ch : List Bool} {k : Nat} {v : Bool} (h : ch[k]? = some v) : inC ch (k : Int) = v := by
  have hl : k < ch.length := (List.getElem?_eq_some_iff.1 h).1
  unfold inC
  rw [Int.toNat_natCast, List.getD_eq_getElem?_getD, h]
  simp; omega

set_option maxRecDepth 100000 in
set_option maxHeartbeats 8000000 in
theorem movement_any (B p B2 : Nat) (s : Bk) (vc : Value) (ch : List Bool) (a b : Int) (w : World) (h : Led w B p s) (hch : w.ownsRow B2 4 1 vc ch.length (ch.map .bool)) (hc16 : ch.length ≤ 16) :
    Calls Tryz.prog 108 #[.pointer (some ⟨p, 0, none⟩), vc, .int .i64 a, .int .i64 b] w fun e w' => e = .returned (.agg #[.int .i64 (tkT (inC ch) a b s.txs).1, .int .i64 (tkT (inC ch) a b s.txs).2]) ∧ Below w.heap.size w w' := by
  obtain ⟨va, vt, tv, dk, h⟩ := h
  obtain ⟨ao, cap, rfl⟩ := ownsRow_form h.txs.own
  obtain ⟨aoc, capc, rfl⟩ := ownsRow_form hch
  have c1 := h.blk.cell 1
  have hpl := h.blk.lt
  simp only [List.getElem?_toArray, List.getElem?_cons_zero, List.getElem?_cons_succ] at c1
  have hlen : tv.length ≤ 64 := by have := h.good.posts; rw [← h.jr, List.length_map] at this; exact this
  have Hjr := hide h.jr
  obtain ⟨q, hq⟩ : ∃ q, inC ch = q := ⟨_, rfl⟩
  have Hq := hide hq
  rw [hq]
  have H := hide h
  have Hch := hide hch
  clear h hq hch
  go_enter Tryz.func108, Tryz.ntmps108
  go_wp2_with fail
  obtain ⟨W0, hW0⟩ : ∃ W0, (w.alloc (.cells #[.int .i64 0, .int .i64 0] 170)).alloc (.cells #[.int .i64 0, .int .i64 0] 170) = W0 := ⟨_, rfl⟩
  have HM0 : Hid (MvSt w W0 0 0) := by rw [← hW0]; exact MvSt.new w
  rw [hW0]
  clear hW0
  go_loopg [21] tv.length (fun m i wr => ∃ j : Nat, ∃ x : Int, ∃ c : Int, j ≤ tv.length ∧ m = tv.length - j ∧ i = .int .i64 j ∧ -(4000000000000 * (j : Int)) ≤ x ∧ x ≤ 4000000000000 * (j : Int) ∧ 0 ≤ c ∧ c ≤ 4 * (j : Int) ∧ Hid (x + (tkT q a b (s.txs.drop j)).1 = (tkT q a b s.txs).1 ∧ c + (tkT q a b (s.txs.drop j)).2 = (tkT q a b s.txs).2) ∧ Hid (MvSt w wr x c))
  case atStart => exact ⟨0, 0, 0, by omega, rfl, rfl, by omega, by omega, by omega, by omega, ⟨by simp, by simp⟩, unhide HM0⟩
  case round =>
    obtain ⟨j, x, c, hj, rfl, rfl, hx0, hx1, hc0, hc1, Ho, Hm⟩ := hrel
    have hsz := (unhide Hm).bel.size
    by_cases hlt : j < tv.length
    · obtain ⟨⟨t, v⟩, ht⟩ : ∃ t, tv[j]? = some t := ⟨tv[j], List.getElem?_eq_getElem hlt⟩
      obtain ⟨g, _, e1, hg, hg'⟩ := ownsRow_some (unhide H).txs.own (by omega)
      simp only [Value.slice.injEq, true_and] at e1
      obtain ⟨rfl, rfl⟩ := e1
      have h3 := three_get (fun x : Tn × Value => Value.int .i64 x.1.1) (fun x => .int .i64 x.1.2.1) (fun x => x.2) tv j (t, v) ht
      have hro := ownsRow_below (unhide H).txs.own (unhide Hm).bel
      have d0 := ownsRow_cell hro (j := j * 3) h3.1
      have d1 := ownsRow_cell hro (j := j * 3 + 1) h3.2.1
      have d2 := ownsRow_cell hro (j := j * 3 + 2) h3.2.2
      have hmem := List.mem_of_getElem? ht
      have hl := (unhide H).txs.lns _ hmem
      have hst : s.txs[j]? = some t := by rw [← unhide Hjr, List.getElem?_map, ht]; rfl
      have hgt := (unhide H).good.tx t (List.mem_of_getElem? hst)
      have Hst := hide (tkT_O (q := q) (a := a) (b := b) hst)
      obtain ⟨ti, td, ls⟩ := t
      simp only at d0 d1 d2 hl hgt Hst
      obtain ⟨aol, capl, rfl⟩ := ownsRow_form hl
      have hl4 := hgt.2.2.2.2.1
      have Hlb := hide hgt.2.2.2.2.2
      have Hl := hide hl
      clear h3 hro hmem hl hst hgt ht
      obtain ⟨ok, hok⟩ : ∃ ok, inD a b td = ok := ⟨_, rfl⟩
      rw [hok] at Hst
      have Hno : Hid (ok = false → x + (tkT q a b (s.txs.drop (j + 1))).1 = (tkT q a b s.txs).1 ∧ c + (tkT q a b (s.txs.drop (j + 1))).2 = (tkT q a b s.txs).2) := by
        intro h0
        have h1 := unhide Ho
        have h2 := unhide Hst
        rw [h0] at h2
        simp only [tkO, Bool.false_eq_true, if_false] at h2
        omega
      by_cases e1 : td < a
      · have Hn := hide (unhide Hno (by rw [← hok]; unfold inD; have : ¬ a ≤ td := (by omega); simp [this]))
        go_wp2_with fail
        go_roundg (tv.length - (j + 1))
        case measure => omega
        case rel => exact ⟨j + 1, x, c, by omega, rfl, by go_num, by omega, by omega, by omega, by omega, unhide Hn, (unhide Hm).alloc _⟩
      by_cases e2 : b < td
      · have Hn := hide (unhide Hno (by rw [← hok]; unfold inD; have : ¬ td ≤ b := (by omega); simp [this]))
        go_wp2_with fail
        go_roundg (tv.length - (j + 1))
        case measure => omega
        case rel => exact ⟨j + 1, x, c, by omega, rfl, by go_num, by omega, by omega, by omega, by omega, unhide Hn, (unhide Hm).alloc _⟩
      obtain rfl : ok = true := by rw [← hok]; unfold inD; have h1 : a ≤ td := by omega
                                   have h2 : td ≤ b := by omega
                                   simp [h1, h2]
      clear Hno hok
      go_wp2_with fail
      obtain ⟨W, hW⟩ : ∃ W, W = wr.alloc (.cells #[.int .i64 ti, .int .i64 td, .slice aol ls.length capl] 136) := ⟨_, rfl⟩
      have HmW : Hid (MvSt w W x c) := by rw [hW]; exact (unhide Hm).alloc _
      rw [← hW]
      clear hW
      go_loopg [38] ls.length (fun m i wx => ∃ k : Nat, ∃ y : Int, ∃ z : Int, k ≤ ls.length ∧ m = ls.length - k ∧ i = .int .i64 k ∧ -(4000000000000 * (j : Int)) - 1000000000000 * (k : Int) ≤ y ∧ y ≤ 4000000000000 * (j : Int) + 1000000000000 * (k : Int) ∧ 0 ≤ z ∧ z ≤ 4 * (j : Int) + k ∧ Hid (y + (tkO true q (ls.drop k)).1 = x + (tkO true q ls).1 ∧ z + (tkO true q (ls.drop k)).2 = c + (tkO true q ls).2) ∧ Hid (MvSt w wx y z))
      case atStart => exact ⟨0, x, c, by omega, rfl, rfl, by omega, by omega, by omega, by omega, ⟨by simp, by simp⟩, unhide HmW⟩
      case round =>
        obtain ⟨k, y, z, hk, rfl, rfl, hy0, hy1, hz0, hz1, Hy, Hmx⟩ := hrel
        have hszx := (unhide Hmx).bel.size
        have m0 := (unhide Hmx).mv.cell 0
        have m1 := (unhide Hmx).mv.cell 1
        have y0 := (unhide Hmx).mv.frozen 0
        have y1 := (unhide Hmx).mv.frozen 1
        have lm := (unhide Hmx).mv.lt
        simp only [List.getElem?_toArray, List.getElem?_cons_zero, List.getElem?_cons_succ] at m0 m1
        by_cases hlt2 : k < ls.length
        · obtain ⟨⟨la, lm⟩, hlk⟩ : ∃ l, ls[k]? = some l := ⟨ls[k], List.getElem?_eq_getElem hlt2⟩
          obtain ⟨g2, _, e1, hg2, hg2'⟩ := ownsRow_some (unhide Hl) (by omega)
          simp only [Value.slice.injEq, true_and] at e1
          obtain ⟨rfl, rfl⟩ := e1
          have h2 := two_get (fun x : Ln => Value.int .i64 x.1) (fun x => .int .i64 x.2) ls k (la, lm) hlk
          have hlx := ownsRow_below (unhide Hl) (unhide Hmx).bel
          have f0 := ownsRow_cell hlx (j := k * 2) h2.1
          have f1 := ownsRow_cell hlx (j := k * 2 + 1) h2.2
          clear hlx
          have hb := unhide Hlb (la, lm) (List.mem_of_getElem? hlk)
          have Hyes := hide (tkO_yes (ok := true) (q := q) hlk)
          have Hno := hide (tkO_no (ok := true) (q := q) hlk)
          simp only at f0 f1 hb Hyes Hno
          have hwr : IntKind.i64.wrap (y + lm) = y + lm := by rw [IntKind.wrap_i64]; omega
          have hwz : IntKind.i64.wrap (z + 1) = z + 1 := by rw [IntKind.wrap_i64]; omega
          have Hlm : Hid (lm ≤ 1000000000000 ∧ -1000000000000 ≤ lm) := ⟨hb.2.2.2, hb.2.2.1⟩
          obtain ⟨n, rfl⟩ : ∃ n : Nat, la = n := ⟨la.toNat, by omega⟩
          clear h2 hlk hb
          by_cases hin : n < ch.length
          · obtain ⟨v, hv⟩ : ∃ v, ch[n]? = some v := ⟨ch[n], List.getElem?_eq_getElem hin⟩
            obtain ⟨gc, _, e1, hgc, hgc'⟩ := ownsRow_some (unhide Hch) (by omega)
            simp only [Value.slice.injEq, true_and] at e1
            obtain ⟨rfl, rfl⟩ := e1
            have hcc := ownsRow_below (unhide Hch) (unhide Hmx).bel
            have fc := ownsRow_cell hcc (j := n) (u := .bool v) (by rw [List.getElem?_map, hv]; rfl)
            have Hqv : Hid (q (n : Int) = v) := by show _ = _; rw [← unhide Hq]; exact inC_at hv
            have ncl : (n : Int) < (ch.length : Int) := by omega
            have hgl : gc < wr.heap.size := by omega
            clear hcc hv
            cases v with
            | true =>
              have Hn := hide (unhide Hyes (by simp) (unhide Hqv))
              go_wp2_with fail
              go_roundg (ls.length - (k + 1))
              case measure => omega
              case rel => exact ⟨k + 1, y + lm, z + 1, by omega, rfl, by go_num, by have := unhide Hlm; omega, by have := unhide Hlm; omega, by omega, by omega, by have h1 := unhide Hy; have h2 := unhide Hn; show _ ∧ _; omega, (((unhide Hmx).add _ _).alloc _)⟩
            | false =>
              have Hn := hide (unhide Hno (.inl (unhide Hqv)))
              go_wp2_with fail
              go_roundg (ls.length - (k + 1))
              case measure => omega
              case rel => exact ⟨k + 1, y, z, by omega, rfl, by go_num, by omega, by omega, by omega, by omega, by have h1 := unhide Hy; have h2 := unhide Hn; show _ ∧ _; omega, (unhide Hmx).alloc _⟩
          · have Hqv : Hid (q (n : Int) = false) := by show _ = _; rw [← unhide Hq]; exact inC_no (.inr (by omega))
            have Hn := hide (unhide Hno (.inl (unhide Hqv)))
            have ncl : ¬ (n : Int) < (ch.length : Int) := by omega
            go_wp2_with fail
            go_roundg (ls.length - (k + 1))
            case measure => omega
            case rel => exact ⟨k + 1, y, z, by omega, rfl, by go_num, by omega, by omega, by omega, by omega, by have h1 := unhide Hy; have h2 := unhide Hn; show _ ∧ _; omega, (unhide Hmx).alloc _⟩
        · obtain rfl : k = ls.length := by omega
          have hyy : y = x + (tkO true q ls).1 ∧ z = c + (tkO true q ls).2 := by have := unhide Hy; rw [tkO_end] at this; simpa using this
          have Ho2 : Hid (y + (tkT q a b (s.txs.drop (j + 1))).1 = (tkT q a b s.txs).1 ∧ z + (tkT q a b (s.txs.drop (j + 1))).2 = (tkT q a b s.txs).2) := by
            have h1 := unhide Ho
            have h2 := unhide Hst
            show _ ∧ _
            omega
          clear hyy
          go_wp2_with fail
          go_roundg (tv.length - (j + 1))
          case measure => omega
          case rel => exact ⟨j + 1, y, z, by omega, rfl, by go_num, by omega, by omega, by omega, by omega, unhide Ho2, unhide Hmx⟩
    · obtain rfl : j = tv.length := by omega
      have Hfin : Hid (x = (tkT q a b s.txs).1 ∧ c = (tkT q a b s.txs).2) := by
        have := unhide Ho
        rw [List.drop_of_length_le (by rw [← unhide Hjr, List.length_map]; exact Nat.le_refl _)] at this
        show _ ∧ _
        simpa [tkT] using this
      have m0 := (unhide Hm).mv.cell 0
      have m1 := (unhide Hm).mv.cell 1
      have r0 := (unhide Hm).res.cell 0
      have r1 := (unhide Hm).res.cell 1
      have y0 := (unhide Hm).res.frozen 0
      have y1 := (unhide Hm).res.frozen 1
      have lr := (unhide Hm).res.lt
      simp only [List.getElem?_toArray, List.getElem?_cons_zero, List.getElem?_cons_succ] at m0 m1 r0 r1
      go_wp2_with fail
      refine bodyPost_ret (v := .agg #[.int .i64 x, .int .i64 c]) (by simp [results, Tryz.results108, go_sem, r0, r1]) rfl ⟨?_, ?_⟩
      · rw [(unhide Hfin).1, (unhide Hfin).2]
      · exact ((unhide Hm).bel.setCell (by simp) _).setCell (by simp) _

end Go.Proofs.YtdchbenfccofpabGreatDoor
namespace Go.Proofs.YtdchbenfccofpabGreatDoor
open Go.RowKit Db

theorem info_bool : (Tryz.prog.info? 4).map (fun i => (i.zero, i.size, i.bytes)) = some (some (.bool false), 1, 1) := by kernel_rfl
/-- What account n alone, or it and all below it, come to in a period. -/
def aloneM (s : Bk) (n a b : Int) : Int × Int := tkT (fun x => x == n) a b s.txs
def belowM (s : Bk) (n a b : Int) : Int × Int := tkT (wth s.acs n 16) a b s.txs
/-- The choosing of accounts: the answer's block, the list so far. -/
structure ChSt (w wr : World) (v : Value) (ch : List Bool) : Prop where
  res : Blk wr w.heap.size #[.int .i64 0, .int .i64 0] 170
  own : wr.ownsRow (w.heap.size + 1) 4 1 v ch.length (ch.map .bool)
  bel : Below w.heap.size w wr
theorem ChSt.new (w : World) : ChSt w (w.alloc (.cells #[.int .i64 0, .int .i64 0] 170)) (.slice none 0 0) [] :=
  ⟨Blk.new _ _ _, World.ownsRow_nil _ _ _ _, (Below.refl _ _).alloc (Nat.le_refl _) _⟩
theorem ChSt.alloc {w wr : World} {v : Value} {ch : List Bool} (h : ChSt w wr v ch) (o : Obj) : ChSt w (wr.alloc o) v ch := ⟨h.res.alloc o, h.own.alloc o, h.bel.alloc h.bel.size o⟩
theorem ChSt.push {w wr w5 : World} {v v' : Value} {ch : List Bool} {x : Bool} {o : Obj} (h : ChSt w wr v ch) (hown : w5.ownsRow (w.heap.size + 1) 4 1 v' (ch.length + 1) (ch.map .bool ++ [.bool x])) (hgr : (wr.alloc o).grownBy w5 v.ownBlock) : ChSt w w5 v' (ch ++ [x]) := by
  refine ⟨(h.res.alloc o).grown hgr (fun e => ?_), by simpa using hown, (h.bel.alloc h.bel.size o).grown hgr (by have := h.bel.size; simp; omega) (fun g hg => ?_)⟩
  · have := (h.own.lt _ e.symm).1; omega
  · have := (h.own.lt g hg).1; omega
theorem cell_one_at (w : World) (n : Nat) (hn : n = w.heap.size) (x : Value) (t : TypeId) : ∀ j u, [x][j]? = some u → (w.alloc (.cells #[x] t)).cell? ((⟨n, 0, none⟩ : Addr).add j) = some u := by
  subst hn; exact cell_one_new _ _ _
theorem chO_snoc (n : Int) (m : Nat) : chO n (m + 1) = chO n m ++ [decide ((m : Int) = n)] := by
  unfold chO; rw [List.range_succ, List.map_append]; rfl
theorem chO_len (n : Int) (m : Nat) : (chO n m).length = m := by simp [chO]
theorem beq_dec (a b : Int) : (a == b) = decide (a = b) := by
  by_cases h : a = b <;> simp [h]

set_option maxRecDepth 100000 in
set_option maxHeartbeats 4000000 in
theorem alone_any (B p : Nat) (s : Bk) (n a b : Int) (w : World) (h : Led w B p s) :
    Calls Tryz.prog 88 #[.pointer (some ⟨p, 0, none⟩), .int .i64 n, .int .i64 a, .int .i64 b] w fun e w' => e = .returned (.agg #[.int .i64 (aloneM s n a b).1, .int .i64 (aloneM s n a b).2]) ∧ Below w.heap.size w w' := by
  obtain ⟨va, vt, tv, dk, h⟩ := h
  obtain ⟨ii, hi, hz0, hz1, hz2⟩ := info_parts info_bool
  obtain ⟨g, cap, rfl, hg, hg'⟩ := ownsRow_some h.acs h.good.one
  have c0 := h.blk.cell 0
  have hpl := h.blk.lt
  simp only [List.getElem?_toArray, List.getElem?_cons_zero] at c0
  have hfew := h.good.few
  have H := hide h
  clear h
  go_enter Tryz.func88, Tryz.ntmps88
  go_wp2_with fail
  go_loopg [9, 16] s.acs.length (fun m v i wr => ∃ j : Nat, j ≤ s.acs.length ∧ m = s.acs.length - j ∧ i = .int .i64 j ∧ Hid (ChSt w wr v (chO n j)))
  case atStart => exact ⟨0, by omega, rfl, rfl, ChSt.new w⟩
  case round =>
    obtain ⟨j, hj, rfl, rfl, Hc⟩ := hrel
    obtain ⟨aov, capv, hv⟩ := ownsRow_form (unhide Hc).own
    rw [chO_len] at hv
    subst hv
    have hszc := (unhide Hc).bel.size
    have hlen := chO_len n j
    by_cases hlt : j < s.acs.length
    · have hd := beq_dec (j : Int) n
      go_wp2_with (first
        | (at_builtin; refine wpList_append_own _ rfl (.tmp 19) (.tmp 23) 88 rfl (w.heap.size + 1) 4 ii (.bool false) 1 1 Tryz.underlying88 hi hz0 hz1 hz2 rfl (by decide) (.slice aov j capv) j _ rfl (by have := (unhide Hc).own.alloc (.cells #[.bool ((j : Int) == n)] 4); rw [hlen] at this; exact this) ⟨wr.heap.size, 0, none⟩ 1 1 [.bool ((j : Int) == n)] rfl rfl (cell_one_new _ _ _) (fun x hx => by simp at hx; subst hx; rfl) (by unfold maxLen; omega) (by omega) (by simp; omega) ?_; intro v' w5 hown5 hgr5 _))
      have Hc5 : Hid (ChSt w w5 v' (chO n (j + 1))) := by
        rw [chO_snoc]
        have h1 := hown5
        rw [hd] at h1
        exact (unhide Hc).push (by rw [hlen]; exact h1) hgr5
      clear hown5 hgr5
      go_wp2_with fail
      go_roundg (s.acs.length - (j + 1))
      case measure => omega
      case rel => exact ⟨j + 1, by omega, rfl, by go_num, unhide Hc5⟩
    · obtain rfl : j = s.acs.length := by omega
      have Hm := hide (movement_any B p (w.heap.size + 1) s _ (chO n s.acs.length) a b wr ⟨_, _, _, _, (unhide H).kept (unhide Hc).bel⟩ (unhide Hc).own (by rw [hlen]; exact hfew))
      rw [tk_chO (unhide H).good] at Hm
      have r0 := (unhide Hc).res.cell 0
      have r1 := (unhide Hc).res.cell 1
      simp only [List.getElem?_toArray, List.getElem?_cons_zero, List.getElem?_cons_succ] at r0 r1
      go_wp2_with fail
      refine (unhide Hm).mono ?_
      rintro e w2 ⟨rfl, hb2⟩
      have HR := hide ((unhide Hc).res.kept hb2)
      obtain ⟨r0, r1, z0, z1, lr⟩ := two_cells (unhide HR)
      have Hb2 := hide ((unhide Hc).bel.then' hszc hb2)
      clear hb2 Hm
      go_wp2_with fail
      refine bodyPost_ret (v := .agg #[.int .i64 (aloneM s n a b).1, .int .i64 (aloneM s n a b).2]) (by simp [results, Tryz.results88, go_sem, r0, r1, aloneM]) rfl ⟨rfl, ?_⟩
      exact ((unhide Hb2).setCell (by simp) _).setCell (by simp) _

set_option maxRecDepth 100000 in
set_option maxHeartbeats 4000000 in
theorem below_any (B p : Nat) (s : Bk) (n a b : Int) (w : World) (h : Led w B p s) :
    Calls Tryz.prog 133 #[.pointer (some ⟨p, 0, none⟩), .int .i64 n, .int .i64 a, .int .i64 b] w fun e w' => e = .returned (.agg #[.int .i64 (belowM s n a b).1, .int .i64 (belowM s n a b).2]) ∧ Below w.heap.size w w' := by
  obtain ⟨va, vt, tv, dk, h⟩ := h
  obtain ⟨ii, hi, hz0, hz1, hz2⟩ := info_parts info_bool
  obtain ⟨g, cap, rfl, hg, hg'⟩ := ownsRow_some h.acs h.good.one
  have c0 := h.blk.cell 0
  have hpl := h.blk.lt
  simp only [List.getElem?_toArray, List.getElem?_cons_zero] at c0
  have hfew := h.good.few
  have H := hide h
  clear h
  go_enter Tryz.func133, Tryz.ntmps133
  go_wp2_with fail
  go_loopg [9, 18] s.acs.length (fun m v i wr => ∃ j : Nat, j ≤ s.acs.length ∧ m = s.acs.length - j ∧ i = .int .i64 j ∧ Hid (ChSt w wr v (chs n (s.acs.take j))))
  case atStart => exact ⟨0, by omega, rfl, rfl, ChSt.new w⟩
  case round =>
    obtain ⟨j, hj, rfl, rfl, Hc⟩ := hrel
    obtain ⟨aov, capv, hv⟩ := ownsRow_form (unhide Hc).own
    have hlen : (chs n (s.acs.take j)).length = j := by rw [chs_len, List.length_take]; omega
    rw [hlen] at hv
    subst hv
    have hszc := (unhide Hc).bel.size
    by_cases hlt : j < s.acs.length
    · obtain ⟨⟨cp, cx⟩, hc⟩ := acs_get hlt
      have hro := ownsRow_below (unhide H).acs (unhide Hc).bel
      have h2 := two_get (fun a : Ac => Value.int .i64 a.1) (fun a => .bool a.2) s.acs j (cp, cx) hc
      have d1 := ownsRow_cell hro (j := j * 2) h2.1
      have d2 := ownsRow_cell hro (j := j * 2 + 1) h2.2
      have hgl : g < wr.heap.size := by omega
      simp only at d1 d2
      obtain ⟨bw, hbw⟩ : ∃ bw, inC (chs n (s.acs.take j)) cp = bw := ⟨_, rfl⟩
      obtain ⟨r, hr⟩ : ∃ r, (bw || decide ((j : Int) = n)) = r := ⟨_, rfl⟩
      have hch : chs n (s.acs.take (j + 1)) = chs n (s.acs.take j) ++ [r] := by
        rw [List.take_add_one, hc]
        simp only [Option.toList_some]
        rw [chs_snoc]
        congr 2
        unfold chsB
        rw [hlen, ← hr, ← hbw]
        unfold inC
        rw [hlen]
      have Hch := hide hch
      have hd := beq_dec (j : Int) n
      have hcase : (cp < 0 ∧ bw = false) ∨ (0 ≤ cp ∧ (j : Int) ≤ cp ∧ bw = false) ∨ (∃ k : Nat, cp = k ∧ k < j ∧ (chs n (s.acs.take j))[k]? = some bw) := by
        by_cases h1 : cp < 0
        · exact .inl ⟨h1, by rw [← hbw]; exact inC_no (.inl h1)⟩
        · by_cases h3 : (j : Int) ≤ cp
          · exact .inr (.inl ⟨by omega, h3, by rw [← hbw]; exact inC_no (.inr (by rw [hlen]; exact h3))⟩)
          · obtain ⟨k, rfl⟩ : ∃ k : Nat, cp = k := ⟨cp.toNat, by omega⟩
            refine .inr (.inr ⟨k, rfl, by omega, ?_⟩)
            have hkl : k < (chs n (s.acs.take j)).length := by omega
            rw [List.getElem?_eq_getElem hkl, ← hbw]
            rw [inC_at (List.getElem?_eq_getElem hkl)]
      have Hr : Hid (r = (bw || ((j : Int) == n))) := by show _ = _; rw [hd, hr]
      have HL : Hid (∀ u : Bool, (bw || ((j : Int) == n)) = u → r = u) := fun u hu => by rw [unhide Hr, hu]
      have Hgo : Hid (∀ (v' : Value) (w5 : World) (o : Obj), w5.ownsRow (w.heap.size + 1) 4 1 v' (j + 1) ((chs n (s.acs.take j)).map .bool ++ [.bool r]) → ((wr.alloc (.cells #[.int .i64 cp, .bool cx] 130)).alloc o).grownBy w5 (Value.slice aov j capv).ownBlock → ChSt w w5 v' (chs n (s.acs.take (j + 1)))) := by
        intro v' w5 o h1 h2
        rw [unhide Hch]
        exact ((unhide Hc).alloc _).push (by rw [hlen]; exact h1) h2
      have Hown := hide (unhide Hc).own
      rw [hlen] at Hown
      clear hro h2 hc hch hr hbw
      rcases hcase with ⟨h1, rfl⟩ | ⟨h1, h3, rfl⟩ | ⟨k, rfl, hkj, hkv⟩
      · have hneg : ¬ 0 ≤ cp := by omega
        have hrr : r = ((j : Int) == n) := by have := unhide Hr; simpa using this
        go_wp2_with (first
          | (at_builtin; refine wpList_append_own _ rfl (.tmp 40) (.tmp 47) 88 rfl (w.heap.size + 1) 4 ii (.bool false) 1 1 Tryz.underlying88 hi hz0 hz1 hz2 rfl (by decide) (.slice aov j capv) j _ rfl (((unhide Hown).alloc _).alloc _) ⟨wr.heap.size + 1, 0, none⟩ 1 1 [.bool ((j : Int) == n)] rfl rfl (cell_one_at _ _ (by simp) _ _) (fun x hx => by simp at hx; subst hx; rfl) (by unfold maxLen; omega) (by omega) (by simp; omega) ?_; intro v' w5 hown5 hgr5 _))
        have Hc5 : Hid (ChSt w w5 v' (chs n (s.acs.take (j + 1)))) := unhide Hgo v' w5 _ (by rw [hrr]; exact hown5) hgr5
        clear hown5 hgr5
        go_wp2_with fail
        go_roundg (s.acs.length - (j + 1))
        case measure => omega
        case rel => exact ⟨j + 1, by omega, rfl, by go_num, unhide Hc5⟩
      · have hge : ¬ cp < (j : Int) := by omega
        have hrr : r = ((j : Int) == n) := by have := unhide Hr; simpa using this
        go_wp2_with (first
          | (at_builtin; refine wpList_append_own _ rfl (.tmp 40) (.tmp 47) 88 rfl (w.heap.size + 1) 4 ii (.bool false) 1 1 Tryz.underlying88 hi hz0 hz1 hz2 rfl (by decide) (.slice aov j capv) j _ rfl (((unhide Hown).alloc _).alloc _) ⟨wr.heap.size + 1, 0, none⟩ 1 1 [.bool ((j : Int) == n)] rfl rfl (cell_one_at _ _ (by simp) _ _) (fun x hx => by simp at hx; subst hx; rfl) (by unfold maxLen; omega) (by omega) (by simp; omega) ?_; intro v' w5 hown5 hgr5 _))
        have Hc5 : Hid (ChSt w w5 v' (chs n (s.acs.take (j + 1)))) := unhide Hgo v' w5 _ (by rw [hrr]; exact hown5) hgr5
        clear hown5 hgr5
        go_wp2_with fail
        go_roundg (s.acs.length - (j + 1))
        case measure => omega
        case rel => exact ⟨j + 1, by omega, rfl, by go_num, unhide Hc5⟩
      · obtain ⟨gv, capv', e1, hgv, hgv'⟩ := ownsRow_some (unhide Hown) (by omega)
        simp only [Value.slice.injEq, true_and] at e1
        obtain ⟨rfl, rfl⟩ := e1
        have dk := ownsRow_cell (unhide Hown) (j := k) (u := .bool bw) (by rw [List.getElem?_map, hkv]; rfl)
        have hkj' : (k : Int) < (j : Int) := by omega
        clear hkv
        cases bw with
        | true =>
          have hrr : r = true := by have := unhide Hr; simpa using this
          go_wp2_with (first
            | (at_builtin; refine wpList_append_own _ rfl (.tmp 40) (.tmp 47) 88 rfl (w.heap.size + 1) 4 ii (.bool false) 1 1 Tryz.underlying88 hi hz0 hz1 hz2 rfl (by decide) (.slice (some ⟨gv, 0, none⟩) j capv) j _ rfl (((unhide Hown).alloc _).alloc _) ⟨wr.heap.size + 1, 0, none⟩ 1 1 [.bool true] rfl rfl (cell_one_at _ _ (by simp) _ _) (fun x hx => by simp at hx; subst hx; rfl) (by unfold maxLen; omega) (by omega) (by simp; omega) ?_; intro v' w5 hown5 hgr5 _))
          have Hc5 : Hid (ChSt w w5 v' (chs n (s.acs.take (j + 1)))) := unhide Hgo v' w5 _ (by rw [hrr]; exact hown5) hgr5
          clear hown5 hgr5
          go_wp2_with fail
          go_roundg (s.acs.length - (j + 1))
          case measure => omega
          case rel => exact ⟨j + 1, by omega, rfl, by go_num, unhide Hc5⟩
        | false =>
          have hrr : r = ((j : Int) == n) := by have := unhide Hr; simpa using this
          go_wp2_with (first
            | (at_builtin; refine wpList_append_own _ rfl (.tmp 40) (.tmp 47) 88 rfl (w.heap.size + 1) 4 ii (.bool false) 1 1 Tryz.underlying88 hi hz0 hz1 hz2 rfl (by decide) (.slice (some ⟨gv, 0, none⟩) j capv) j _ rfl (((unhide Hown).alloc _).alloc _) ⟨wr.heap.size + 1, 0, none⟩ 1 1 [.bool ((j : Int) == n)] rfl rfl (cell_one_at _ _ (by simp) _ _) (fun x hx => by simp at hx; subst hx; rfl) (by unfold maxLen; omega) (by omega) (by simp; omega) ?_; intro v' w5 hown5 hgr5 _))
          have Hc5 : Hid (ChSt w w5 v' (chs n (s.acs.take (j + 1)))) := unhide Hgo v' w5 _ (by rw [hrr]; exact hown5) hgr5
          clear hown5 hgr5
          go_wp2_with fail
          go_roundg (s.acs.length - (j + 1))
          case measure => omega
          case rel => exact ⟨j + 1, by omega, rfl, by go_num, unhide Hc5⟩
    · obtain rfl : j = s.acs.length := by omega
      have htk : s.acs.take s.acs.length = s.acs := List.take_length
      have Hc' := hide (unhide Hc)
      rw [htk] at Hc' hlen
      have Hm := hide (movement_any B p (w.heap.size + 1) s _ (chs n s.acs) a b wr ⟨_, _, _, _, (unhide H).kept (unhide Hc).bel⟩ (unhide Hc').own (by rw [hlen]; exact hfew))
      rw [tk_chs (unhide H).good] at Hm
      have r0 := (unhide Hc).res.cell 0
      have r1 := (unhide Hc).res.cell 1
      simp only [List.getElem?_toArray, List.getElem?_cons_zero, List.getElem?_cons_succ] at r0 r1
      clear htk
      go_wp2_with fail
      refine (unhide Hm).mono ?_
      rintro e w2 ⟨rfl, hb2⟩
      have HR := hide ((unhide Hc).res.kept hb2)
      obtain ⟨r0, r1, z0, z1, lr⟩ := two_cells (unhide HR)
      have Hb2 := hide ((unhide Hc).bel.then' hszc hb2)
      clear hb2 Hm
      go_wp2_with fail
      refine bodyPost_ret (v := .agg #[.int .i64 (belowM s n a b).1, .int .i64 (belowM s n a b).2]) (by simp [results, Tryz.results133, go_sem, r0, r1, belowM]) rfl ⟨rfl, ?_⟩
      exact ((unhide Hb2).setCell (by simp) _).setCell (by simp) _
end Go.Proofs.YtdchbenfccofpabGreatDoor
namespace Go.Proofs.YtdchbenfccofpabGreatDoor
open Go.RowKit Db

theorem own_set {w : World} {B g n cap i : Nat} {e : TypeId} {size : Nat} {xs : List Value} (h : w.ownsRow B e size (.slice (some ⟨g, 0, none⟩) n cap) n xs) (v : Value) :
    (w.setCell ⟨g, i, none⟩ v).ownsRow B e size (.slice (some ⟨g, 0, none⟩) n cap) n (xs.set i v) := by
  refine ⟨by rw [List.length_set]; exact h.1, ?_⟩
  rcases h.2 with ⟨h0, _⟩ | ⟨g', cap', cur, h0, hB, hg, hn, hc, hs, ht⟩
  · cases h0
  · simp only [Value.slice.injEq, Option.some.injEq, Addr.mk.injEq, and_true, true_and] at h0
    obtain ⟨rfl, rfl⟩ := h0
    refine .inr ⟨g, cap, cur.setIfInBounds i v, rfl, hB, ?_, hn, hc, by simpa using hs, ?_⟩
    · simp [World.setCell, Array.getElem?_modify, hg]
    · rw [Array.toList_setIfInBounds, List.take_set, ht]
theorem flat2_set {α : Type} (f g : α → Value) (b : α) (l : List α) : ∀ (k : Nat) (a : α), l[k]? = some a → f b = f a → (l.set k b).flatMap (fun x => [f x, g x]) = (l.flatMap fun x => [f x, g x]).set (k * 2 + 1) (g b) := by
  induction l with
  | nil => intro k a h; simp at h
  | cons x t ih =>
    intro k a h hf
    cases k with
    | zero => simp at h; subst h; simp [hf]
    | succ k =>
      simp only [List.getElem?_cons_succ] at h
      have := ih k a h hf
      simp only [List.set_cons_succ, List.flatMap_cons, List.cons_append, List.nil_append]
      rw [this, show (k + 1) * 2 = (k * 2 + 1) + 1 by omega]
      simp
theorem cellsA_shut {l : List Ac} {k : Nat} {c : Ac} (h : l[k]? = some c) : cellsA (l.set k (c.1, true)) = (cellsA l).set (k * 2 + 1) (.bool true) :=
  flat2_set (fun a : Ac => Value.int .i64 a.1) (fun a => .bool a.2) (c.1, true) l k c h rfl

theorem LedAt.shut {w : World} {B p g cap k : Nat} {vt : Value} {tv : List (Tn × Value)} {d : Dk} {s : Bk} {c : Ac} (h : LedAt w B p (.slice (some ⟨g, 0, none⟩) s.acs.length cap) vt tv d s) (hc : s.acs[k]? = some c) (hg : BkGood { s with acs := s.acs.set k (c.1, true) }) (hcn : cnt s ≤ cnt { s with acs := s.acs.set k (c.1, true) }) :
    LedAt (w.setCell ⟨g, k * 2 + 1, none⟩ (.bool true)) B p (.slice (some ⟨g, 0, none⟩) s.acs.length cap) vt tv d { s with acs := s.acs.set k (c.1, true) } ∧ FrT B tP w (w.setCell ⟨g, k * 2 + 1, none⟩ (.bool true)) := by
  have ht := ownsRow_tg h.acs g rfl
  have f1 : FrT B [130] w (w.setCell ⟨g, k * 2 + 1, none⟩ (.bool true)) := (FrT.refl _ _ w).setCell (T := 130) (by simp) ht.2 ht.1 _
  refine ⟨⟨h.blk.frT f1 (by decide), h.lo, ?_, h.txs.frT f1 (by decide) (by decide), h.jr, hg, ownsRow_frT h.dsk f1 (by decide), h.dlen, Nat.le_trans h.dcnt hcn⟩, f1.mono (by simp [tP])⟩
  simp only [List.length_set]
  rw [cellsA_shut hc]
  exact own_set h.acs _

theorem cls_none {s : Bk} {a : Int} (h : ther s a = false ∨ a = 0) : cls s a = (7, s) := by unfold cls; rw [if_pos h]
theorem cls_shut {s : Bk} {a : Int} (h : ther s a = true) (h0 : ¬ a = 0) (hc : clsd s a = true) : cls s a = (8, s) := by unfold cls; rw [if_neg (by simp [h, h0]), if_pos hc]
theorem cls_open {s : Bk} {a : Int} (h : ther s a = true) (h0 : ¬ a = 0) (hc : clsd s a = false) (ho : opb a s.acs = true) : cls s a = (9, s) := by unfold cls; rw [if_neg (by simp [h, h0]), if_neg (by simp [hc]), if_pos ho]
theorem cls_bal {s : Bk} {a : Int} (h : ther s a = true) (h0 : ¬ a = 0) (hc : clsd s a = false) (ho : opb a s.acs = false) (hb : ¬ balT a s.txs = 0) : cls s a = (10, s) := by unfold cls; rw [if_neg (by simp [h, h0]), if_neg (by simp [hc]), if_neg (by simp [ho]), if_pos hb]
theorem cls_ok {s : Bk} {k : Nat} {c : Ac} (h : ther s k = true) (h0 : ¬ (k : Int) = 0) (hc : clsd s k = false) (ho : opb k s.acs = false) (hb : balT k s.txs = 0) (hk : s.acs[k]? = some c) : cls s k = (0, { s with acs := s.acs.set k (c.1, true) }) := by
  unfold cls
  rw [if_neg (by simp only [h, h0]; simp), if_neg (by simp [hc]), if_neg (by simp [ho]), if_neg (by simp [hb])]
  simp [hk]

set_option maxRecDepth 100000 in
set_option maxHeartbeats 2000000 in
theorem ledClose_any (B p : Nat) (d : Dk) (s : Bk) (a : Int) (w : World) (h : LedD w B p d s) :
    Calls Tryz.prog 68 #[.pointer (some ⟨p, 0, none⟩), .int .i64 a] w fun e w' => e = .returned (.int .i64 (cls s a).1) ∧ LedD w' B p d (cls s a).2 ∧ FrT B tP w w' := by
  have Hho := hide (hasOpen_any B p s a w h.led)
  have Hbal : Hid (∀ wx, Led wx B p s → Calls Tryz.prog 88 #[.pointer (some ⟨p, 0, none⟩), .int .i64 a, .int .i64 0, .int .i64 999] wx fun e w' => ∃ c, e = .returned (.agg #[.int .i64 (balT a s.txs), .int .i64 c]) ∧ Below wx.heap.size wx w') := by
    intro wx hx
    refine (alone_any B p s a 0 999 wx hx).mono ?_
    rintro e w1 ⟨rfl, hb⟩
    have hgood : BkGood s := by obtain ⟨_, _, _, h⟩ := h; exact h.good
    refine ⟨(aloneM s a 0 999).2, ?_, hb⟩
    rw [show (aloneM s a 0 999).1 = balT a s.txs from tkT_bal a s.txs (fun t ht => ⟨(hgood.tx t ht).2.2.1, (hgood.tx t ht).2.2.2.1⟩)]
  obtain ⟨va, vt, tv, h⟩ := h
  obtain ⟨g, cap, rfl, hg, hg'⟩ := ownsRow_some h.acs h.good.one
  have c0 := h.blk.cell 0
  have hlp := h.blk.lt
  simp only [List.getElem?_toArray, List.getElem?_cons_zero] at c0
  have hfew := h.good.few
  have H := hide h
  by_cases hin : a ≤ 0 ∨ (s.acs.length : Int) ≤ a
  · rw [cls_none (by by_cases h0 : a = 0; exact .inr h0; exact .inl (ther_no (by omega)))]
    clear h
    by_cases hneg : a ≤ 0
    · go_enter Tryz.func68, Tryz.ntmps68
      go_wp2_with fail
      go_ret
      exact ⟨rfl, ⟨_, _, _, unhide H⟩, FrT.refl _ _ _⟩
    · have hge : (s.acs.length : Int) ≤ a := by omega
      go_enter Tryz.func68, Tryz.ntmps68
      go_wp2_with fail
      go_ret
      exact ⟨rfl, ⟨_, _, _, unhide H⟩, FrT.refl _ _ _⟩
  · obtain ⟨k, rfl⟩ : ∃ k : Nat, a = k := ⟨a.toNat, by omega⟩
    have hk : k < s.acs.length := by omega
    have hk0 : ¬ (k : Int) = 0 := by omega
    obtain ⟨c, hc⟩ := acs_get hk
    have d := ownsRow_cell h.acs (j := k * 2 + 1) (two_get (fun a : Ac => Value.int .i64 a.1) (fun a => .bool a.2) s.acs k c hc).2
    have ht := ther_nat hk
    have hcl := clsd_at hc
    have hle : ¬ (k : Int) ≤ 0 := by omega
    clear h hin
    cases hcc : c.2 with
    | true =>
      rw [hcc] at d hcl
      rw [cls_shut ht hk0 hcl]
      clear ht hcl hc
      go_enter Tryz.func68, Tryz.ntmps68
      go_wp2_with fail
      go_ret
      exact ⟨rfl, ⟨_, _, _, unhide H⟩, FrT.refl _ _ _⟩
    | false =>
      rw [hcc] at d hcl
      cases ho : opb (k : Int) s.acs with
      | true =>
        rw [ho] at Hho
        rw [cls_open ht hk0 hcl ho]
        clear ht hcl hc ho
        go_enter Tryz.func68, Tryz.ntmps68
        go_wp2_with fail
        refine (unhide Hho).mono ?_
        rintro e w1 ⟨rfl, hb1⟩
        have Hb1 := hide hb1
        clear hb1
        go_wp2_with fail
        go_ret
        exact ⟨rfl, ⟨_, _, _, (unhide H).kept (unhide Hb1)⟩, FrT.of_below (unhide Hb1)⟩
      | false =>
        rw [ho] at Hho
        by_cases hbal : balT (k : Int) s.txs = 0
        · have hok := cls_ok ht hk0 hcl ho hbal hc
          have Hgood : Hid (BkGood { s with acs := s.acs.set k (c.1, true) }) := by
            have := BkGood.cls (unhide H).good (k : Int)
            rw [hok] at this
            exact this
          rw [hok]
          rw [hbal] at Hbal
          have Hc := hide hc
          clear ht hcl hc ho hok hbal
          go_enter Tryz.func68, Tryz.ntmps68
          go_wp2_with fail
          refine (unhide Hho).mono ?_
          rintro e w1 ⟨rfl, hb1⟩
          have H1 := hide ((unhide H).kept hb1)
          have Hb1 := hide hb1
          clear hb1
          go_wp2_with fail
          refine (unhide Hbal _ ⟨_, _, _, _, unhide H1⟩).mono ?_
          rintro e w2 ⟨cc, rfl, hb2⟩
          have H2 := hide ((unhide H1).kept hb2)
          have Hb2 := hide ((unhide Hb1).then hb2)
          have c2 := (unhide H2).blk.cell 0
          simp only [List.getElem?_toArray, List.getElem?_cons_zero] at c2
          have z2 := ownsRow_frozen (unhide H2).acs (k * 2 + 1)
          have d2 := ownsRow_cell (unhide H2).acs (j := k * 2 + 1) (two_get (fun a : Ac => Value.int .i64 a.1) (fun a => .bool a.2) s.acs k c (unhide Hc)).2
          have hgl : g < w2.heap.size := by have := (unhide Hb2).size; omega
          have hpl2 : p < w2.heap.size := by have := (unhide Hb2).size; omega
          clear hb2
          go_wp2_with fail
          go_ret
          have hfin := (unhide H2).shut (unhide Hc) (unhide Hgood) (by rw [cnt_shut (unhide Hc)]; omega)
          have hal := (Below.refl _ (w2.setCell ⟨g, k * 2 + 1, none⟩ (.bool true))).alloc (Nat.le_refl _) (.cells #[.int .i64 0, .int .i64 cc] 170)
          exact ⟨rfl, ⟨_, _, _, hfin.1.kept hal⟩, ((FrT.of_below (unhide Hb2)).trans hfin.2).then hal⟩
        · rw [cls_bal ht hk0 hcl ho hbal]
          obtain ⟨b, hb⟩ : ∃ b, balT (k : Int) s.txs = b := ⟨_, rfl⟩
          rw [hb] at Hbal hbal
          have hbe : (b == 0) = false := by simpa using hbal
          clear ht hcl hc ho hb
          go_enter Tryz.func68, Tryz.ntmps68
          go_wp2_with fail
          refine (unhide Hho).mono ?_
          rintro e w1 ⟨rfl, hb1⟩
          have H1 := hide ((unhide H).kept hb1)
          have Hb1 := hide hb1
          clear hb1
          go_wp2_with fail
          refine (unhide Hbal _ ⟨_, _, _, _, unhide H1⟩).mono ?_
          rintro e w2 ⟨cc, rfl, hb2⟩
          have H2 := hide ((unhide H1).kept hb2)
          have Hb2 := hide ((unhide Hb1).then hb2)
          clear hb2
          go_wp2_with fail
          go_ret
          have hal := (Below.refl _ w2).alloc (Nat.le_refl _) (.cells #[.int .i64 b, .int .i64 cc] 170)
          exact ⟨rfl, ⟨_, _, _, (unhide H2).kept hal⟩, (FrT.of_below (unhide Hb2)).then hal⟩

end Go.Proofs.YtdchbenfccofpabGreatDoor
