/- A record and a book: ready, played. Lines that came in: from the reading of the argument to the list that a walk wants. Steps on a book that came in: from the reading of the argument to the lists that a walk wants. The program's book: Writes. A record and a book: quiet. Twice: what was taken in, posted again. Twice: the law's walk. -/
import Derived.Test.YtdchbenfccofpaaDoorW05
import Derived.Test.YtdchbenfccofpaaDoorW02
import Derived.Deep.SlicePairs
import Derived.SizedLaws
import Derived.Carry
import Derived.ProofKit
import Derived.OpenShut
import Derived.Test.YtdchbenfccofpaaDoorW04
import Derived.Laws.AppendOwnNone
namespace Go.Proofs.YtdchbenfccofpaaDoor
open Go.RowKit Db

/-- A step as it came in. -/
structure KAct where
  kd : Int
  a : Int
  b : Int
  ao : Option Addr
  cap : Nat
  ls : List Ln
def KAct.val (x : KAct) : Value := .agg #[.int .i64 x.kd, .int .i64 x.a, .int .i64 x.b, .slice x.ao x.ls.length x.cap]
/-- A book, its sectors used and what is not yet told; a step on it. -/
structure KS where
  s : Bk
  u : Nat
  ws : List Wr
def kstep (t : KS) (x : KAct) : KS := ⟨(clE t.s x.kd x.a x.b x.ls).2.2, dkU (clY t.s x.kd x.a x.b x.ls) t.u, dkW (clY t.s x.kd x.a x.b x.ls) t.u (clX x.kd x.a x.b x.ls) t.ws⟩
def krun (t : KS) (xs : List KAct) : KS := xs.foldl kstep t
theorem krun_step {t : KS} {xs : List KAct} {j : Nat} {x : KAct} (h : xs[j]? = some x) : krun t (xs.take (j + 1)) = kstep (krun t (xs.take j)) x := by
  unfold krun
  rw [List.take_add_one, h]
  simp
def rdL : List KAct := [⟨1, 0, 0, none, 0, []⟩, ⟨1, 0, 0, none, 0, []⟩, ⟨1, 1, 0, none, 0, []⟩, ⟨3, 1, 5, none, 2, [(2, 7), (3, -7)]⟩]
def rdS (j : Nat) : KS := krun ⟨bk0, 0, []⟩ (rdL.take j)
def rdy : KS := krun ⟨bk0, 0, []⟩ rdL
/-- A record and a book of one state. -/
structure KP (w : World) (B q p : Nat) (t : KS) : Prop where
  rec' : Rec w B q t.s
  led : LedW w B p t.u t.ws t.s
theorem KP.kept {w w' : World} {B q p : Nat} {t : KS} (h : KP w B q p t) (hb : Below w.heap.size w w') : KP w' B q p t := ⟨h.rec'.kept hb, h.led.kept hb⟩
theorem RecAt.base {w : World} {B B' p : Nat} {vp vc vt : Value} {tv : List (Tn × Value)} {s : Bk} (h : RecAt w B p vp vc vt tv s) (hB : B' ≤ B) : RecAt w B' p vp vc vt tv s :=
  ⟨h.blk, Nat.le_trans hB h.lo, ownsRow_base h.par (fun k hk => Nat.le_trans hB (ownsRow_tg h.par k hk).1), ownsRow_base h.clo (fun k hk => Nat.le_trans hB (ownsRow_tg h.clo k hk).1), ⟨ownsRow_base h.txs.own (fun k hk => Nat.le_trans hB (ownsRow_tg h.txs.own k hk).1), fun x hx => ownsRow_base (h.txs.lns x hx) (fun k hk => Nat.le_trans hB (ownsRow_tg (h.txs.lns x hx) k hk).1)⟩, h.jr, h.good⟩
theorem Rec.base {w : World} {B B' p : Nat} {s : Bk} (h : Rec w B p s) (hB : B' ≤ B) : Rec w B' p s := by
  obtain ⟨_, _, _, _, h⟩ := h; exact ⟨_, _, _, _, h.base hB⟩

set_option maxRecDepth 100000 in
set_option maxHeartbeats 4000000 in
theorem ready_any (w : World) (ht : Tab w) :
    Calls Tryd.prog 15 #[] w fun e w' => ∃ q p, e = .returned (.tuple #[.pointer (some ⟨p, 0, none⟩), .pointer (some ⟨q, 0, none⟩), .bool true]) ∧ KP w' w.heap.size q p rdy ∧ Below w.heap.size w w' := by
  have Ht := hide ht
  clear ht
  go_enter Tryd.func15, Tryd.ntmps15
  go_wp2_with fail
  refine (dayNew_any _).mono ?_
  rintro e w1 ⟨p, rfl, h1, hb1⟩
  have H1 := hide h1
  have Hb1 := hide hb1
  clear h1 hb1
  go_wp2_with fail
  refine (blank_any _).mono ?_
  rintro e w2 ⟨q, rfl, h2, hb2⟩
  have hs1 := (unhide Hb1).size
  have HP2 : Hid (KP w2 w.heap.size q p (rdS 0)) := ⟨h2.base hs1, (unhide H1).kept hb2⟩
  have Hb2 := hide ((unhide Hb1).then hb2)
  clear h2 hb2 H1
  go_wp2_with fail
  refine (tells_any w.heap.size w.heap.size q p bk0 w2 (unhide HP2).rec' (unhide HP2).led.led ((unhide Ht).below (unhide Hb2))).mono ?_
  rintro e w3 ⟨rfl, hb3⟩
  have HP3 := hide ((unhide HP2).kept hb3)
  have Hb3 := hide ((unhide Hb2).then hb3)
  have hs3 := (unhide Hb3).size
  clear hb3 HP2
  obtain ⟨gL, hgL⟩ : ∃ g, w3.heap.size = g := ⟨_, rfl⟩
  obtain ⟨w4, hw4⟩ : ∃ w4, w3.alloc (.cells #[.int .i64 2, .int .i64 7, .int .i64 3, .int .i64 (-7)] 99) = w4 := ⟨_, rfl⟩
  have HL4 : Hid (Blk w4 gL #[.int .i64 2, .int .i64 7, .int .i64 3, .int .i64 (-7)] 99) := by rw [← hw4, ← hgL]; exact Blk.new _ _ _
  have hs4 : w4.heap.size = gL + 1 := by rw [← hw4, ← hgL]; simp
  obtain ⟨w5, hw5⟩ : ∃ w5, w4.alloc (.cells #[.int .i64 1, .int .i64 0, .int .i64 0, .slice none 0 0, .int .i64 1, .int .i64 0, .int .i64 0, .slice none 0 0, .int .i64 1, .int .i64 1, .int .i64 0, .slice none 0 0, .int .i64 3, .int .i64 1, .int .i64 5, .slice (some ⟨gL, 0, none⟩) 2 2] 60) = w5 := ⟨_, rfl⟩
  have HA5 : Hid (Blk w5 (gL + 1) #[.int .i64 1, .int .i64 0, .int .i64 0, .slice none 0 0, .int .i64 1, .int .i64 0, .int .i64 0, .slice none 0 0, .int .i64 1, .int .i64 1, .int .i64 0, .slice none 0 0, .int .i64 3, .int .i64 1, .int .i64 5, .slice (some ⟨gL, 0, none⟩) 2 2] 60) := by rw [← hw5, ← hs4]; exact Blk.new _ _ _
  have hb34 : Below w3.heap.size w3 w4 := by rw [← hw4]; exact (Below.refl _ _).alloc (Nat.le_refl _) _
  have hb45 : Below w4.heap.size w4 w5 := by rw [← hw5]; exact (Below.refl _ _).alloc (Nat.le_refl _) _
  have HL5 := hide ((unhide HL4).kept hb45)
  have HP5 := hide (((unhide HP3).kept hb34).kept hb45)
  have Hb5 := hide (((unhide Hb3).then hb34).then hb45)
  clear hb34 hb45 HL4 HP3
  go_wp2_with fail
  try rw [hgL]
  try rw [hw4]
  try rw [hs4]
  try rw [hw5]
  clear hgL hw4 hw5 hs4 hs3
  go_loopg [5, 7] 4 (fun m vo vi wr => ∃ j : Nat, j ≤ 4 ∧ m = 4 - j ∧ vi = .int .i64 j ∧ vo = .bool true ∧ Hid (KP wr w.heap.size q p (rdS j)) ∧ Hid (Blk wr gL #[.int .i64 2, .int .i64 7, .int .i64 3, .int .i64 (-7)] 99) ∧ Hid (Blk wr (gL + 1) #[.int .i64 1, .int .i64 0, .int .i64 0, .slice none 0 0, .int .i64 1, .int .i64 0, .int .i64 0, .slice none 0 0, .int .i64 1, .int .i64 1, .int .i64 0, .slice none 0 0, .int .i64 3, .int .i64 1, .int .i64 5, .slice (some ⟨gL, 0, none⟩) 2 2] 60) ∧ Hid (Below w.heap.size w wr))
  case atStart => exact ⟨0, by omega, rfl, rfl, rfl, unhide HP5, unhide HL5, unhide HA5, unhide Hb5⟩
  case round =>
    obtain ⟨j, hj, rfl, rfl, rfl, HP, HL, HA, Hb⟩ := hrel
    by_cases hlt : j < 4
    · obtain ⟨kd, a, b, ao, cap, ls, d0, d1, d2, d3, hlk, hll, herr, hst⟩ : ∃ (kd a b : Int) (ao : Option Addr) (cap : Nat) (ls : List Ln), wr.cell? ⟨gL + 1, j * 4, none⟩ = some (.int .i64 kd) ∧ wr.cell? ⟨gL + 1, j * 4 + 1, none⟩ = some (.int .i64 a) ∧ wr.cell? ⟨gL + 1, j * 4 + 2, none⟩ = some (.int .i64 b) ∧ wr.cell? ⟨gL + 1, j * 4 + 3, none⟩ = some (.slice ao ls.length cap) ∧
          (∀ w', FrT w.heap.size tP wr w' → LinesAt w' (.slice ao ls.length cap) ls) ∧ ls.length ≤ 2 ∧ (clE (rdS j).s kd a b ls).2.1 = 0 ∧ rdS (j + 1) = kstep (rdS j) ⟨kd, a, b, ao, cap, ls⟩ := by
        have hc := fun i => (unhide HA).cell i
        have hln : ∀ w', FrT w.heap.size tP wr w' → LinesAt w' (.slice (some ⟨gL, 0, none⟩) 2 2) [(2, 7), (3, -7)] := fun w' hf => LinesAt.of_blk (cap := 2) (ls := [(2, 7), (3, -7)]) ((unhide HL).frT hf (by decide))
        rcases j with _ | _ | _ | _ | j
        · exact ⟨1, 0, 0, none, 0, [], by rw [hc]; rfl, by rw [hc]; rfl, by rw [hc]; rfl, by rw [hc]; rfl, fun w' _ => LinesAt.nil w', by simp, rfl, rfl⟩
        · exact ⟨1, 0, 0, none, 0, [], by rw [hc]; rfl, by rw [hc]; rfl, by rw [hc]; rfl, by rw [hc]; rfl, fun w' _ => LinesAt.nil w', by simp, rfl, rfl⟩
        · exact ⟨1, 1, 0, none, 0, [], by rw [hc]; rfl, by rw [hc]; rfl, by rw [hc]; rfl, by rw [hc]; rfl, fun w' _ => LinesAt.nil w', by simp, rfl, rfl⟩
        · exact ⟨3, 1, 5, some ⟨gL, 0, none⟩, 2, [(2, 7), (3, -7)], by rw [hc]; rfl, by rw [hc]; rfl, by rw [hc]; rfl, by rw [hc]; rfl, hln, by simp, rfl, rfl⟩
        · omega
      have hsz := (unhide Hb).size
      obtain ⟨t, ht⟩ : ∃ t, rdS j = t := ⟨_, rfl⟩
      rw [ht] at HP herr hst
      have Hst := hide hst
      have Hlk := hide hlk
      have Hc := hide (calledW_any w.heap.size p t.u t.ws t.s kd a b ao cap ls wr (unhide HP).led (hlk wr (FrT.refl _ _ _)) (by omega))
      have Hy := hide (fun (wx : World) (h : Rec wx w.heap.size q t.s) (hl : LinesAt wx (.slice ao ls.length cap) ls) => yes_any w.heap.size q t.s kd a b ao cap ls wx h hl herr)
      rw [herr] at Hc
      obtain ⟨x, hx⟩ : ∃ x, (clE t.s kd a b ls).1 = x := ⟨_, rfl⟩
      obtain ⟨s', hs'⟩ : ∃ x, (clE t.s kd a b ls).2.2 = x := ⟨_, rfl⟩
      obtain ⟨u', hu'⟩ : ∃ u', dkU (clY t.s kd a b ls) t.u = u' := ⟨_, rfl⟩
      obtain ⟨ws', hws'⟩ : ∃ ws', dkW (clY t.s kd a b ls) t.u (clX kd a b ls) t.ws = ws' := ⟨_, rfl⟩
      have Hst2 : Hid (rdS (j + 1) = ⟨s', u', ws'⟩) := by show _ = _; rw [hst, ← hs', ← hu', ← hws']; rfl
      rw [hx, hs', hu', hws'] at Hc
      rw [hx, hs'] at Hy
      have jlt : (j : Int) < 4 := by omega
      clear herr hst hlk hx hs' hu' hws' ht hll
      go_wp2_with fail
      refine (unhide Hc).mono ?_
      rintro e w6 ⟨rfl, k1, k2⟩
      have K1 := hide k1
      have K2 := hide k2
      have HA6 := hide ((unhide HA).frT k2 (by decide))
      have Hyy := hide (unhide Hy w6 ((unhide HP).rec'.frP k2) (unhide Hlk w6 k2))
      have e0 : w6.cell? ⟨gL + 1, j * 4, none⟩ = some (.int .i64 kd) := by rw [(unhide HA6).cell, ← (unhide HA).cell]; exact d0
      have e1 : w6.cell? ⟨gL + 1, j * 4 + 1, none⟩ = some (.int .i64 a) := by rw [(unhide HA6).cell, ← (unhide HA).cell]; exact d1
      have e2 : w6.cell? ⟨gL + 1, j * 4 + 2, none⟩ = some (.int .i64 b) := by rw [(unhide HA6).cell, ← (unhide HA).cell]; exact d2
      have e3 : w6.cell? ⟨gL + 1, j * 4 + 3, none⟩ = some (.slice ao ls.length cap) := by rw [(unhide HA6).cell, ← (unhide HA).cell]; exact d3
      clear k1 k2 d0 d1 d2 d3 Hc Hy
      go_wp2_with fail
      refine (unhide Hyy).mono ?_
      rintro e w7 ⟨rfl, j1, j2⟩
      have HP7 : Hid (KP w7 w.heap.size q p ⟨s', u', ws'⟩) := ⟨j1, (unhide K1).frK j2⟩
      have Hb6 : Hid (Below w.heap.size w w6) := (unhide Hb).trans ((unhide K2).below hsz)
      have hsz6 := (unhide Hb6).size
      have Hb7 : Hid (Below w.heap.size w w7) := (unhide Hb6).trans (j2.below hsz6)
      have HL7 := hide (((unhide HL).frT (unhide K2) (by decide)).frT j2 (by decide))
      have HA7 := hide ((unhide HA6).frT j2 (by decide))
      clear j1 j2 Hyy e0 e1 e2 e3 K1 K2
      go_wp2_with fail
      refine (tells_any w.heap.size w.heap.size q p s' w7 (unhide HP7).rec' (unhide HP7).led.led ((unhide Ht).below (unhide Hb7))).mono ?_
      rintro e w8 ⟨rfl, hb8⟩
      have HP8 : Hid (KP w8 w.heap.size q p (rdS (j + 1))) := by show KP _ _ _ _ _; rw [unhide Hst2]; exact (unhide HP7).kept hb8
      have HL8 := hide ((unhide HL7).kept hb8)
      have HA8 := hide ((unhide HA7).kept hb8)
      have Hb8 := hide ((unhide Hb7).then hb8)
      clear hb8
      go_wp2_with fail
      go_roundg (4 - (j + 1))
      case measure => omega
      case rel => exact ⟨j + 1, by omega, rfl, by go_num, rfl, unhide HP8, unhide HL8, unhide HA8, unhide Hb8⟩
    · obtain rfl : j = 4 := by omega
      have HPF : Hid (KP wr w.heap.size q p rdy) := unhide HP
      go_wp2_with fail
      go_ret3
      exact ⟨q, p, rfl, unhide HPF, unhide Hb⟩

/-- Steps that came in, below B. -/
structure KOk (w : World) (B : Nat) (x : KAct) : Prop where
  at' : LinesAt w (.slice x.ao x.ls.length x.cap) x.ls
  lo : x.ls = [] ∨ ∀ k, (Value.slice x.ao x.ls.length x.cap).ownBlock = some k → k < B
  few : x.ls.length ≤ 8796093022000
structure KActsAt (w : World) (B : Nat) (v : Value) (xs : List KAct) : Prop where
  form : ∃ ao cap, v = .slice ao xs.length cap ∧ (xs = [] ∨ ∃ b off, ao = some ⟨b, off, none⟩ ∧ b < B ∧ ∀ (i : Nat) (x : KAct), xs[i]? = some x →
    w.cell? ⟨b, off + i * 4, none⟩ = some (.int .i64 x.kd) ∧ w.cell? ⟨b, off + i * 4 + 1, none⟩ = some (.int .i64 x.a) ∧ w.cell? ⟨b, off + i * 4 + 2, none⟩ = some (.int .i64 x.b) ∧
    w.cell? ⟨b, off + i * 4 + 3, none⟩ = some (.slice x.ao x.ls.length x.cap))
  oks : ∀ x ∈ xs, KOk w B x
theorem LinesAt.belowK {w w' : World} {B : Nat} {v : Value} {ls : List Ln} (h : LinesAt w v ls) (hb : Below B w w') (hg : ls = [] ∨ ∀ k, v.ownBlock = some k → k < B) : LinesAt w' v ls := by
  obtain ⟨ao, cap, rfl, hr⟩ := h
  refine ⟨ao, cap, rfl, ?_⟩
  rcases hg with hg | hg
  · exact .inl hg
  rcases hr with hr | ⟨b, off, rfl, hlt, hc⟩
  · exact .inl hr
  · refine .inr ⟨b, off, rfl, Nat.lt_of_lt_of_le hlt hb.size, fun i l hl => ?_⟩
    rw [hb.cell (p := ⟨b, off + i * 2, none⟩) (hg b rfl), hb.cell (p := ⟨b, off + i * 2 + 1, none⟩) (hg b rfl)]
    exact hc i l hl
theorem KActsAt.below {w w' : World} {B : Nat} {v : Value} {xs : List KAct} (h : KActsAt w B v xs) (hb : Below B w w') : KActsAt w' B v xs := by
  obtain ⟨⟨ao, cap, rfl, hr⟩, ho⟩ := h
  refine ⟨⟨ao, cap, rfl, ?_⟩, fun x hx => ⟨(ho x hx).at'.belowK hb (ho x hx).lo, (ho x hx).lo, (ho x hx).few⟩⟩
  rcases hr with hr | ⟨b, off, rfl, hlt, hc⟩
  · exact .inl hr
  · refine .inr ⟨b, off, rfl, hlt, fun i x hx => ?_⟩
    have h1 : ∀ j, w'.cell? ⟨b, j, none⟩ = w.cell? ⟨b, j, none⟩ := fun j => hb.cell (p := ⟨b, j, none⟩) hlt
    rw [h1, h1, h1, h1]
    exact hc i x hx

set_option maxRecDepth 100000 in
set_option maxHeartbeats 4000000 in
theorem kplayed_any (v : Value) (xs : List KAct) (w : World) (h : KActsAt w w.heap.size v xs) (hlen : xs.length ≤ 9223372036854775800) (ht : Tab w) :
    Calls Tryd.prog 7 #[v] w fun e w' => ∃ q p, e = .returned (.tuple #[.pointer (some ⟨p, 0, none⟩), .pointer (some ⟨q, 0, none⟩), .bool true]) ∧ KP w' w.heap.size q p (krun rdy xs) ∧ Below w.heap.size w w' := by
  obtain ⟨ao, cap, rfl⟩ : ∃ ao cap, v = .slice ao xs.length cap := by obtain ⟨⟨ao, cap, rfl, _⟩, _⟩ := h; exact ⟨ao, cap, rfl⟩
  have H := hide h
  have Ht := hide ht
  clear h ht
  go_enter Tryd.func7, Tryd.ntmps7
  go_wp2_with fail
  refine (ready_any _ (unhide Ht)).mono ?_
  rintro e w1 ⟨q, p, rfl, h1, hb1⟩
  have H1 := hide h1
  have Hb1 := hide hb1
  clear h1 hb1
  go_wp2_with fail
  go_loopg [7, 8] xs.length (fun m vo i wr => ∃ j : Nat, j ≤ xs.length ∧ m = xs.length - j ∧ i = .int .i64 j ∧ vo = .bool true ∧ Hid (KP wr w.heap.size q p (krun rdy (xs.take j))) ∧ Hid (Below w.heap.size w wr))
  case atStart => exact ⟨0, by omega, rfl, rfl, rfl, unhide H1, unhide Hb1⟩
  case round =>
    obtain ⟨j, hj, rfl, rfl, rfl, HP, Hb⟩ := hrel
    by_cases hlt : j < xs.length
    · obtain ⟨x, hx⟩ : ∃ x, xs[j]? = some x := ⟨xs[j], List.getElem?_eq_getElem hlt⟩
      have hat := (unhide H).below (unhide Hb)
      have Hst := hide (krun_step (t := rdy) hx)
      have hok := hat.oks x (List.mem_of_getElem? hx)
      obtain ⟨⟨ao', cap', e1, hr⟩, _⟩ := hat
      simp only [Value.slice.injEq, true_and] at e1
      obtain ⟨rfl, rfl⟩ := e1
      have hr2 := hr.resolve_left (by rintro rfl; simp at hx)
      obtain ⟨b, off, rfl, hbl, hc⟩ := hr2
      obtain ⟨d0, d1, d2, d3⟩ := hc j x hx
      have hjj : (j : Int) < (xs.length : Int) := by omega
      have hsz := (unhide Hb).size
      obtain ⟨t, ht⟩ : ∃ t, krun rdy (xs.take j) = t := ⟨_, rfl⟩
      rw [ht] at HP Hst
      obtain ⟨kd, xa, xb, xao, xcap, ls⟩ := x
      simp only at d0 d1 d2 d3 hok
      have Hdo := hide (kdo_any w.heap.size q p t.u t.ws t.s kd xa xb xao xcap ls wr (unhide HP).rec' (unhide HP).led (fun w' hf => hok.at'.belowK (hf.below hsz) hok.lo) hok.few (fun w' hf => (unhide Ht).below ((unhide Hb).trans (hf.below hsz))))
      clear hr hc hx hok ht
      go_wp2_with fail
      refine (unhide Hdo).mono ?_
      rintro e w2 ⟨rfl, h1, h2, h3⟩
      have HP2 : Hid (KP w2 w.heap.size q p (krun rdy (xs.take (j + 1)))) := by show KP _ _ _ _ _; rw [unhide Hst]; exact ⟨h1, h2⟩
      have Hb2 : Hid (Below w.heap.size w w2) := (unhide Hb).trans (h3.below hsz)
      clear h1 h2 h3 Hdo
      go_wp2_with fail
      go_roundg (xs.length - (j + 1))
      case measure => omega
      case rel => exact ⟨j + 1, by omega, rfl, by go_num, rfl, unhide HP2, unhide Hb2⟩
    · obtain rfl : j = xs.length := by omega
      have HP2 : Hid (KP wr w.heap.size q p (krun rdy xs)) := by have := unhide HP; rw [List.take_length] at this; exact this
      go_wp2_with fail
      go_ret3
      exact ⟨q, p, rfl, unhide HP2, unhide Hb⟩

end Go.Proofs.YtdchbenfccofpaaDoor
namespace Go.Proofs.YtdchbenfccofpaaDoor
open Go.RowKit Db Go.ChangeShapes Go.WideShapes Go.ChangeAt Go.WideMaps Go.WideElems Go.Deep

theorem cInt : Tryd.prog.cellsOf 3 = 1 := by kernel_rfl
theorem cStr : Tryd.prog.cellsOf 9 = 1 := by kernel_rfl
theorem cLns : Tryd.prog.cellsOf 39 = 1 := by kernel_rfl
theorem cLine : Tryd.prog.cellsOf 99 = 2 := by kernel_rfl
theorem bLine : Tryd.prog.bytesOf 99 = 16 := by kernel_rfl
theorem reach_eq : reachBytes = 140737488351232 := rfl
theorem blk_lt {w : World} {a : Addr} {v : Value} (h : w.cell? a = some v) : a.block < w.heap.size := World.block_lt_of_cell? w a h
def intV : Value → Int
  | .int _ n => n
  | _ => 0

section
variable {H : Type} {enc : TypeId × Value → H} {W : World} {fuel : Nat} {x : DataW H × List MemPlace}
theorem open_lines {v : Value} (h : DataW.trod enc Tryd.prog W 0 (fun _ => true) true fuel 39 [v] = some x) :
    ∃ ao cap ls, v = .slice ao ls.length cap ∧ LinesAt W v ls ∧ (ls = [] ∨ ∀ k, v.ownBlock = some k → k < W.heap.size) ∧ (ls = [] ∨ ∃ el sp, x.1 = .slice el sp ∧ el.length = ls.length) := by
  rcases open_slice_pairs Tryd.underlying39 Tryd.underlying99 cLine rfl rfl cInt cInt h with ⟨hc, hx⟩ | ⟨a, len, cap, m, n, V0, V1, D0, D1, P0, P1, hc, _, hl, hm, hmm, hx, hcell⟩
  · simp only [List.cons.injEq, and_true] at hc
    subst hc
    exact ⟨none, 0, [], rfl, ⟨none, 0, rfl, .inl rfl⟩, .inl rfl, .inl rfl⟩
  · simp only [List.cons.injEq, and_true] at hc
    subst hc
    simp only [if_true] at hmm
    by_cases h0 : len = 0
    · subst h0
      exact ⟨some a, cap, [], rfl, ⟨some a, cap, rfl, .inl rfl⟩, .inl rfl, .inl rfl⟩
    · obtain ⟨b, off, spot⟩ := a
      have hspot : spot = none := by simpa [Addr.add] using World.cell?_spot (hcell 0 (by omega)).1
      subst hspot
      have hV : ∀ i, i < m → V0 i = .int .i64 (intV (V0 i)) ∧ V1 i = .int .i64 (intV (V1 i)) := by
        intro i hi
        obtain ⟨_, _, t0, t1⟩ := hcell i hi
        obtain ⟨k0, e0, _⟩ := DataW.trod_int Tryd.underlying3 t0
        obtain ⟨k1, e1, _⟩ := DataW.trod_int Tryd.underlying3 t1
        simp only [List.cons.injEq, and_true] at e0 e1
        rw [e0, e1]
        exact ⟨rfl, rfl⟩
      have hbl : b < W.heap.size := by
        have := blk_lt (hcell 0 (by omega)).1
        simpa [Addr.add] using this
      refine ⟨some ⟨b, off, none⟩, cap, (List.range len).map fun i => (intV (V0 i), intV (V1 i)), by simp, ⟨some ⟨b, off, none⟩, cap, by simp, .inr ⟨b, off, rfl, hbl, fun i l hl => ?_⟩⟩, .inr ?_, .inr ⟨_, _, by rw [hx], by simp⟩⟩
      · rw [List.getElem?_map] at hl
        have hi : i < len := by
          rcases Nat.lt_or_ge i len with hi | hi
          · exact hi
          · rw [List.getElem?_eq_none (by simpa using hi)] at hl; simp at hl
        rw [List.getElem?_range hi] at hl
        simp only [Option.map_some, Option.some.injEq] at hl
        subst hl
        have hc := hcell i (by omega)
        rw [Addr.add_lit, Addr.add_lit] at hc
        have hv := hV i (by omega)
        simp only
        rw [← hv.1, ← hv.2]
        exact ⟨hc.1, by rw [← Nat.add_assoc] at hc; exact hc.2.1⟩
      · intro k hk
        simp only [Value.ownBlock, Option.some.injEq] at hk
        omega

theorem weightsAll_mem {P : Program} {e : TypeId} : ∀ {l : List (DataW H)} {d : DataW H}, d ∈ l → ∀ n ∈ d.weights P e, n ∈ DataW.weightsAll P e l
  | d' :: r, d, hd, n, hn => by
    simp only [DataW.weightsAll, List.mem_append]
    rcases List.mem_cons.1 hd with rfl | h
    · exact Or.inl hn
    · exact Or.inr (weightsAll_mem h n hn)
end
end Go.Proofs.YtdchbenfccofpaaDoor
namespace Go.Proofs.YtdchbenfccofpaaDoor
open Go.RowKit Db Go.ChangeShapes Go.WideShapes Go.ChangeAt Go.WideMaps Go.WideElems Go.Deep

theorem cKAct : Tryd.prog.cellsOf 60 = 4 := by kernel_rfl
theorem bKAct : Tryd.prog.bytesOf 60 = 48 := by kernel_rfl

section
variable {H : Type} {enc : TypeId × Value → H} {W : World} {fuel : Nat} {x : DataW H × List MemPlace}
instance : Inhabited KAct := ⟨⟨0, 0, 0, none, 0, []⟩⟩
set_option maxRecDepth 100000 in
/-- One step, from its six cells. -/
theorem kopen_act {cs : List Value} (h : DataW.trod enc Tryd.prog W 0 (fun _ => true) true fuel 60 cs = some x) (hcs : cs.length = 4) (hsz : ∀ n ∈ x.1.weights Tryd.prog 60, n ≤ reachBytes) :
    ∃ y : KAct, cs = [.int .i64 y.kd, .int .i64 y.a, .int .i64 y.b, .slice y.ao y.ls.length y.cap] ∧ KOk W W.heap.size y := by
  obtain ⟨xs, n, rfl, rfl, _, hxl, hf⟩ := DataW.trod_struct Tryd.underlying60 h
  match cs, hcs, xs, hxl with
  | [v0, v1, v2, v3], _, [y0, y1, y2, y3], _ =>
    have g0 := hf 0 _ rfl
    have g1 := hf 1 _ rfl
    have g2 := hf 2 _ rfl
    have g3 := hf 3 _ rfl
    simp [cInt, cLns] at g0 g1 g2 g3
    obtain ⟨k0, e0, _⟩ := DataW.trod_int Tryd.underlying3 g0
    obtain ⟨k1, e1, _⟩ := DataW.trod_int Tryd.underlying3 g1
    obtain ⟨k2, e2, _⟩ := DataW.trod_int Tryd.underlying3 g2
    obtain ⟨ao, cap, ls, e3, hL, hlo, hw⟩ := open_lines g3
    simp only [List.cons.injEq, and_true] at e0 e1 e2
    subst e0 e1 e2 e3
    refine ⟨⟨k0, k1, k2, ao, cap, ls⟩, rfl, hL, hlo, ?_⟩
    rcases hw with rfl | ⟨el, sp, hx3, hel⟩
    · simp
    · have := hsz ((el.length + sp.length) * 16) (by
        simp only [List.map_cons, List.map_nil, DataW.weights, Tryd.underlying60]
        simp [DataW.weightsEach, hx3, DataW.weights, Tryd.underlying39, bLine])
      rw [reach_eq] at this
      simp only
      omega

/-- All steps. -/
theorem kopen_acts {v : Value} {ts : List TypeId} {ds : List (DataW H)} (h : DataW.trod enc Tryd.prog W 0 (fun _ => true) true fuel 26 [v] = some x) (hsz : (DataW.weightsEach Tryd.prog ts ds).all (· ≤ reachBytes) = true) {j : Nat} (hj : ts[j]? = some 26) (hd : ds[j]? = some x.1) :
    ∃ ys : List KAct, KActsAt W W.heap.size v ys ∧ ys.length ≤ 9223372036854775800 := by
  rcases open_slice Tryd.underlying26 h with ⟨hc, hx⟩ | ⟨a, len, cap, m, n, D, Pl, hc, _, hl, hm, hmm, hx, hel⟩
  · simp only [List.cons.injEq, and_true] at hc
    subst hc
    exact ⟨[], ⟨⟨none, 0, rfl, .inl rfl⟩, by simp⟩, by simp⟩
  · simp only [List.cons.injEq, and_true] at hc
    subst hc
    simp only [if_true] at hmm
    subst hx
    have hbig := sized_slice hsz hj hd Tryd.underlying26
    rw [bKAct, reach_eq] at hbig
    simp only [List.length_map, List.length_range] at hbig
    by_cases h0 : len = 0
    · subst h0
      exact ⟨[], ⟨⟨some a, cap, rfl, .inl rfl⟩, by simp⟩, by simp⟩
    · obtain ⟨b, off, spot⟩ := a
      have each : ∀ i, i < len → ∃ y : KAct, (∀ (f : Nat) (u : Value), [Value.int .i64 y.kd, .int .i64 y.a, .int .i64 y.b, .slice y.ao y.ls.length y.cap][f]? = some u → W.cell? ((⟨b, off, spot⟩ : Addr).add (i * 4 + f)) = some u) ∧ KOk W W.heap.size y := by
        intro i hi
        obtain ⟨cs', h1, h2⟩ := hel i (by omega)
        rw [cKAct] at h1
        obtain ⟨_, hlen, hcell⟩ := World.cells?_some h1
        obtain ⟨y, rfl, hy⟩ := kopen_act h2 hlen (fun k hk => by
          refine of_decide_eq_true (List.all_eq_true.1 hsz _ (DataW.weights_mem_each hj hd _ ?_))
          simp only [DataW.weights, Tryd.underlying26, List.mem_cons, List.mem_append]
          exact Or.inr (Or.inl (weightsAll_mem (List.mem_map.2 ⟨i, List.mem_range.2 hi, rfl⟩) _ hk)))
        refine ⟨y, fun f u hu => ?_, hy⟩
        have hf : f < 4 := by have := (List.getElem?_eq_some_iff.1 hu).1; simpa using this
        have he := hcell f hf
        rw [hu, add_add] at he
        exact he
      have hspot : spot = none := by
        obtain ⟨y, hy, _⟩ := each 0 (by omega)
        have := World.cell?_spot (hy 0 _ rfl)
        simpa [Addr.add] using this
      subst hspot
      have hbl : b < W.heap.size := by
        obtain ⟨y, hy, _⟩ := each 0 (by omega)
        have := blk_lt (hy 0 _ rfl)
        simpa [Addr.add] using this
      obtain ⟨Y, hY⟩ := choose_lt each
      refine ⟨(List.range len).map Y, ⟨⟨some ⟨b, off, none⟩, cap, by simp, .inr ⟨b, off, rfl, hbl, fun i y hy => ?_⟩⟩, fun y hy => ?_⟩, by simp; omega⟩
      · rw [List.getElem?_map] at hy
        have hi : i < len := by
          rcases Nat.lt_or_ge i len with hi | hi
          · exact hi
          · rw [List.getElem?_eq_none (by simpa using hi)] at hy; simp at hy
        rw [List.getElem?_range hi] at hy
        simp only [Option.map_some, Option.some.injEq] at hy
        subst hy
        have hc := (hY i hi).1
        refine ⟨?_, ?_, ?_, ?_⟩
        · have := hc 0 _ rfl; rw [Addr.add_lit] at this; simpa [Nat.add_assoc] using this
        · have := hc 1 _ rfl; rw [Addr.add_lit] at this; simpa [Nat.add_assoc] using this
        · have := hc 2 _ rfl; rw [Addr.add_lit] at this; simpa [Nat.add_assoc] using this
        · have := hc 3 _ rfl; rw [Addr.add_lit] at this; simpa [Nat.add_assoc] using this
      · obtain ⟨i, hi, rfl⟩ := List.mem_map.1 hy
        exact (hY i (List.mem_range.1 hi)).2
end
end Go.Proofs.YtdchbenfccofpaaDoor
namespace Go.Proofs.YtdchbenfccofpaaDoor
open Go.RowKit Db

theorem cellsW_length (l : List Wr) : (cellsW l).length = l.length * 2 := by
  induction l with
  | nil => rfl
  | cons a r ih => unfold cellsW at ih ⊢; simp at ih ⊢; omega
theorem cellsW_one (l : List Wr) : ∀ u ∈ cellsW l, u.oneCell' = true := by
  intro u hu
  unfold cellsW at hu
  rw [List.mem_flatMap] at hu
  obtain ⟨a, _, hu⟩ := hu
  simp at hu
  rcases hu with rfl | rfl <;> rfl
theorem LedAt.told {w w5 : World} {B p u : Nat} {va vt vw : Value} {tv : List (Tn × Value)} {ws : List Wr} {s : Bk} (h : LedAt w B p va vt tv ⟨u, vw, ws⟩ s) (hb : Below w.heap.size w w5) :
    LedAt (w5.setCell ⟨p, 3, none⟩ (.slice none 0 0)) B p va vt tv ⟨u, .slice none 0 0, []⟩ s ∧ FrT B [68] w (w5.setCell ⟨p, 3, none⟩ (.slice none 0 0)) := by
  have h5 := h.kept hb
  have f2 : FrT B [68] w5 (w5.setCell ⟨p, 3, none⟩ (.slice none 0 0)) := (FrT.refl _ _ w5).setCell (T := 68) (by simp) h5.blk.tg h5.lo _
  refine ⟨⟨?_, h5.lo, ownsRow_frT h5.acs f2 (by decide), h5.txs.frT f2 (by decide) (by decide), h5.jr, h5.good, World.ownsRow_nil _ _ _ _, Nat.zero_le _, h5.dcnt⟩, (FrT.of_below hb).trans f2⟩
  have := h5.blk.set 3 (.slice none 0 0)
  simpa using this

set_option maxRecDepth 100000 in
set_option maxHeartbeats 2000000 in
theorem diskWrites_any (B p u : Nat) (ws : List Wr) (s : Bk) (w : World) (h : LedW w B p u ws s) :
    Calls Tryd.prog 17 #[.pointer (some ⟨p, 2, none⟩)] w fun e w' => (∃ v, e = .returned v ∧ w'.ownsRow w.heap.size 150 2 v ws.length (cellsW ws)) ∧ LedW w' B p u [] s ∧ FrT B [68] w w' := by
  obtain ⟨ii, hi, hz0, hz1, hz2⟩ := info_parts info_write
  obtain ⟨va, vt, tv, vw, h⟩ := h
  have hwl := h.dlen
  have hcn := h.dcnt
  have hbd := cnt_bound h.good
  have c3 := h.blk.cell 3
  have z3 := h.blk.frozen 3
  have lq := h.blk.lt
  have hlo := h.lo
  simp only [List.getElem?_toArray, List.getElem?_cons_zero, List.getElem?_cons_succ] at c3
  simp only at hwl hcn
  rcases h.dsk.2 with ⟨hvw, hn⟩ | ⟨g, cap, cur, hvw, hBg, _⟩
  · simp only at hvw hn
    subst hvw
    obtain rfl : ws = [] := List.length_eq_zero_iff.1 hn
    have H := hide h
    clear h hn
    go_enter Tryd.func17, Tryd.ntmps17
    go_wp2_with (first
      | (at_builtin; refine wpList_append_own_none rfl (.tmp 4) (.tmp 8) 31 rfl w.heap.size 150 ii 2 Tryd.underlying31 hi (.slice none 0 0) 0 [] rfl (World.ownsRow_nil _ _ _ _) rfl ?_))
    go_ret
    have hfin := (unhide H).told (Below.refl _ w)
    exact ⟨⟨_, rfl, World.ownsRow_nil _ _ _ _⟩, ⟨_, _, _, _, hfin.1⟩, hfin.2⟩
  · simp only at hvw
    subst hvw
    have H := hide h
    have Hcs : Hid (∀ j x, (cellsW ws)[j]? = some x → w.cell? ((⟨g, 0, none⟩ : Addr).add j) = some x) := by
      intro j x hj
      rw [Addr.add_lit, Nat.zero_add]
      exact ownsRow_cell h.dsk hj
    clear h
    go_enter Tryd.func17, Tryd.ntmps17
    go_wp2_with (first
      | (at_builtin; refine wpList_append_own _ rfl (.tmp 4) (.tmp 8) 31 rfl w.heap.size 150 ii (.agg #[.int .i64 0, .string ⟨#[]⟩]) 2 24 Tryd.underlying31 hi hz0 hz1 hz2 rfl (by decide) (.slice none 0 0) 0 [] rfl (World.ownsRow_nil _ _ _ _) ⟨g, 0, none⟩ ws.length cap (cellsW ws) rfl (cellsW_length ws) (unhide Hcs) (cellsW_one ws) (by unfold maxLen; omega) (by omega) (Nat.le_refl _) ?_; intro vk w3 hown3 hgr3 _; have hb3 := below_of_none hgr3; simp only [Nat.zero_add, List.nil_append] at hown3; obtain ⟨ak, ck, rfl⟩ := ownsRow_form hown3; have H3 := hide ((unhide H).kept hb3); have c5 := (unhide H3).blk.cell 3; have z5 := (unhide H3).blk.frozen 3; have l5 := (unhide H3).blk.lt; simp only [List.getElem?_toArray, List.getElem?_cons_zero, List.getElem?_cons_succ] at c5; have Hown3 := hide hown3; have Hb3 := hide hb3; clear hown3 hgr3 hb3))
    go_ret
    have hfin := (unhide H).told (unhide Hb3)
    exact ⟨⟨_, rfl, ownsRow_frT (unhide Hown3) ((FrT.refl B [68] w3).setCell (p := ⟨p, 3, none⟩) (T := 68) (by simp) (unhide H3).blk.tg hlo _) (by decide)⟩, ⟨_, _, _, _, hfin.1⟩, hfin.2⟩

set_option maxRecDepth 100000 in
set_option maxHeartbeats 1000000 in
theorem dayWrites_any (B p u : Nat) (ws : List Wr) (s : Bk) (w : World) (h : LedW w B p u ws s) :
    Calls Tryd.prog 8 #[.pointer (some ⟨p, 0, none⟩)] w fun e w' => (∃ ao cap, e = .returned (.slice ao ws.length cap) ∧ w'.ownsRow w.heap.size 150 2 (.slice ao ws.length cap) ws.length (cellsW ws)) ∧ LedW w' B p u [] s ∧ FrT B [68] w w' := by
  have Hc := hide (diskWrites_any B p u ws s w h)
  clear h
  go_enter Tryd.func8, Tryd.ntmps8
  go_wp2_with fail
  refine (unhide Hc).mono ?_
  rintro e w1 ⟨⟨v, rfl, k1⟩, k2, k3⟩
  obtain ⟨ao, cap, rfl⟩ := ownsRow_form k1
  have HF : Hid (w1.ownsRow w.heap.size 150 2 (.slice ao ws.length cap) ws.length (cellsW ws) ∧ LedW w1 B p u [] s ∧ FrT B [68] w w1) := ⟨k1, k2, k3⟩
  clear k1 k2 k3 Hc
  go_wp2_with fail
  go_ret
  exact ⟨⟨_, _, rfl, (unhide HF).1⟩, (unhide HF).2⟩

end Go.Proofs.YtdchbenfccofpaaDoor
namespace Go.Proofs.YtdchbenfccofpaaDoor
open Go.RowKit Db

theorem Rec.frB {w w' : World} {B B' q : Nat} {s : Bk} (h : Rec w B q s) (hf : FrT B' [68] w w') : Rec w' B q s := by
  obtain ⟨vp, vc, vt, tv, h⟩ := h
  exact ⟨_, _, _, _, h.frT hf (by decide) (by decide)⟩

set_option maxRecDepth 100000 in
set_option maxHeartbeats 2000000 in
theorem quiet_any (B q p u : Nat) (ws : List Wr) (s : Bk) (w : World) (hr : Rec w B q s) (hb : LedW w B p u ws s) (hT : ∀ w', FrT B tP w w' → Tab w') :
    Calls Tryd.prog 20 #[.pointer (some ⟨q, 0, none⟩), .pointer (some ⟨p, 0, none⟩)] w fun e w' => e = .returned (.bool (decide (ws.length = 0))) ∧ Rec w' B q s ∧ LedW w' B p u [] s ∧ FrT B tP w w' := by
  have Hr := hide hr
  have Hw := hide (dayWrites_any B p u ws s w hb)
  have HT := hide hT
  obtain ⟨y, hy, e1⟩ : ∃ y, decide (ws.length = 0) = y ∧ ((ws.length : Int) == 0) = y := ⟨_, rfl, by
    by_cases h : ws.length = 0
    · rw [h]; rfl
    · rw [decide_eq_false h, beq_eq_false_iff_ne]; omega⟩
  rw [hy]
  clear hr hb hT hy
  cases y
  all_goals
    go_enter Tryd.func20, Tryd.ntmps20
    go_wp2_with fail
    refine (unhide Hw).mono ?_
    rintro e w1 ⟨⟨ao, cap, rfl, k1⟩, k2, k3⟩
    have H1 : Hid (Rec w1 B q s ∧ LedW w1 B p u [] s ∧ FrT B tP w w1) := ⟨(unhide Hr).frB k3, k2, k3.mono (by simp [tP])⟩
    clear k1 k2 k3 Hw
    go_wp2_with fail
    refine (tells_any B B q p s w1 (unhide H1).1 (unhide H1).2.1.led (unhide HT _ (unhide H1).2.2)).mono ?_
    rintro e w2 ⟨rfl, hb2⟩
    have H2 : Hid (Rec w2 B q s ∧ LedW w2 B p u [] s ∧ FrT B tP w w2) := ⟨(unhide H1).1.kept hb2, (unhide H1).2.1.kept hb2, (unhide H1).2.2.then hb2⟩
    clear hb2
    go_wp2_with fail
    refine (dayWrites_any B p u [] s w2 (unhide H2).2.1).mono ?_
    rintro e w3 ⟨⟨ao3, cap3, rfl, k1⟩, k2, k3⟩
    have H3 : Hid (Rec w3 B q s ∧ LedW w3 B p u [] s ∧ FrT B tP w w3) := ⟨(unhide H2).1.frB k3, k2, (unhide H2).2.2.trans (k3.mono (by simp [tP]))⟩
    clear k1 k2 k3
    go_wp2_with fail
    go_ret
    exact ⟨rfl, unhide H3⟩

end Go.Proofs.YtdchbenfccofpaaDoor
namespace Go.Proofs.YtdchbenfccofpaaDoor
open Go.RowKit Db

/-- Each transaction is found by its id. -/
def Uq (s : Bk) : Prop := ∀ t ∈ s.txs, findT t.1 s.txs = some t
theorem findT_snoc (id : Int) (l : List Tn) (x : Tn) : findT id (l ++ [x]) = match findT id l with | some t => some t | none => if x.1 == id then some x else none := by
  induction l with
  | nil => simp [findT]
  | cons t r ih =>
    simp only [List.cons_append, findT]
    split
    · rfl
    · exact ih
theorem findT_id {id : Int} {l : List Tn} {t : Tn} (h : findT id l = some t) : t.1 = id := by
  induction l with
  | nil => cases h
  | cons x r ih =>
    unfold findT at h
    split at h
    · rename_i hx; cases h; simpa using hx
    · exact ih h
theorem clE_uq {s : Bk} (hg : BkGood s) (hu : Uq s) (kd a b : Int) (ls : List Ln) : Uq (clE s kd a b ls).2.2 := by
  by_cases he : (clE s kd a b ls).2.1 = 0
  · by_cases h1 : kd = 1
    · subst h1
      have e1 : clE s 1 a b ls = opn s a := rfl
      rw [e1] at he ⊢
      obtain ⟨k, c, rfl, _, _, _, e2⟩ := opn_yes he
      rw [e2]; exact hu
    by_cases h2 : kd = 2
    · subst h2
      have e1 : clE s 2 a b ls = (0, (cls s a).1, (cls s a).2) := rfl
      rw [e1] at he ⊢
      obtain ⟨k, c, rfl, _, _, _, e2⟩ := cls_yes he
      rw [e2]; exact hu
    by_cases h3 : kd = 3
    · subst h3
      have e1 : clE s 3 a b ls = (0, (pst s a b ls).1, (pst s a b ls).2) := rfl
      rw [e1] at he ⊢
      rcases pst_yes hg he with ⟨t, _, _, _, e2⟩ | ⟨hf, _, _, _, _, e2⟩
      · simp only; rw [e2]; exact hu
      · simp only
        rw [e2]
        intro t ht
        simp only [List.mem_append, List.mem_singleton] at ht
        simp only
        rw [findT_snoc]
        rcases ht with ht | rfl
        · rw [hu t ht]
        · rw [hf]; simp
    · have e1 : clE s kd a b ls = (0, 0, s) := by unfold clE; rw [if_neg h1, if_neg h2, if_neg h3]
      rw [e1]; exact hu
  · rw [(clE_no he).2]; exact hu
theorem krun_uq (xs : List KAct) : ∀ (t : KS), BkGood t.s → Uq t.s → BkGood (krun t xs).s ∧ Uq (krun t xs).s := by
  induction xs with
  | nil => intro t hg hr; exact ⟨hg, hr⟩
  | cons x r ih => intro t hg hr; exact ih (kstep t x) (clE_good hg _ _ _ _) (clE_uq hg hr _ _ _ _)
theorem rdy_uq : BkGood rdy.s ∧ Uq rdy.s := krun_uq rdL ⟨bk0, 0, []⟩ good0 (fun t ht => by simp [bk0] at ht)
/-- A transaction that is there, posted again. -/
theorem post_old (B p u : Nat) (s : Bk) (t : Tn) (day : Int) (v : Value) (ls : List Ln) (w : World) (hg : BkGood s) (hu : Uq s) (hm : t ∈ s.txs) (h : LedW w B p u [] s) (hl : LinesAt w v ls) (hty : ∀ k, v.ownBlock = some k → Tg w k 99) :
    Calls Tryd.prog 19 #[.pointer (some ⟨p, 0, none⟩), .int .i64 t.1, .int .i64 day, v] w fun e w' => e = .returned (.int .i64 (repE t.2.1 day t.2.2 ls)) ∧ LedW w' B p u [] s ∧ FrT B tP w w' := by
  have hid := hg.tx t hm
  have hp := pst_old (s := s) (id := t.1) (day := day) (ls := ls) (t := t) (by omega) (hu t hm)
  have hn : isN s t.1 day ls = false := isN_no (by rw [hp])
  have := dayPostW_any B p u [] s t.1 day v ls w h hl hty
  rw [hp, hn] at this
  exact this

set_option maxRecDepth 100000 in
set_option maxHeartbeats 2000000 in
theorem turned_any (v : Value) (ls : List Ln) (w : World) (h : LinesAt w v ls) (h4 : ls.length ≤ 4) :
    Calls Tryd.prog 21 #[v] w fun e w' => ∃ ao cap, e = .returned (.slice ao ls.length cap) ∧ w'.ownsRow w.heap.size 99 2 (.slice ao ls.length cap) ls.length (cellsL ls.reverse) ∧ Below w.heap.size w w' := by
  obtain ⟨ii, hi, hz0, hz1, hz2⟩ := info_parts info_line
  obtain ⟨ao, cap, rfl⟩ := h.form
  have H := hide h
  obtain ⟨n, hn⟩ : ∃ n, ls.length = n := ⟨_, rfl⟩
  have Hn := hide hn
  have hwn : wrap64 ((n : Int) - 1) = (n : Int) - 1 := by unfold wrap64; omega
  rw [hn] at h4 H ⊢
  clear h hn
  go_enter Tryd.func21, Tryd.ntmps21
  go_wp2_with fail
  go_loopg [3, 4] n (fun mm vo vi wr => ∃ j : Nat, j ≤ n ∧ mm = n - j ∧ vi = .int .i64 ((n : Int) - 1 - (j : Int)) ∧ Hid (wr.ownsRow w.heap.size 99 2 vo j (cellsL (ls.reverse.take j))) ∧ Hid (Below w.heap.size w wr))
  case atStart => exact ⟨0, by omega, rfl, by simp, World.ownsRow_nil _ _ _ _, Below.refl _ _⟩
  case round =>
    obtain ⟨j, hj, rfl, rfl, Ho, Hb⟩ := hrel
    have hsz := (unhide Hb).size
    by_cases hlt : j < n
    · obtain ⟨⟨la, lm⟩, hl⟩ : ∃ l, ls[n - 1 - j]? = some l := ⟨ls[n - 1 - j]'(by have := unhide Hn; omega), List.getElem?_eq_getElem _⟩
      have Hrv : Hid (cellsL (ls.reverse.take (j + 1)) = cellsL (ls.reverse.take j) ++ [.int .i64 la, .int .i64 lm]) := by
        show _ = _
        have h1 : ls.reverse[j]? = some (la, lm) := by
          rw [List.getElem?_reverse (by rw [unhide Hn]; exact hlt), unhide Hn]
          exact hl
        rw [List.take_add_one, h1]
        exact cellsL_snoc _ _
      obtain ⟨hnl, b, off, rfl, hbl, d1, d2⟩ := ((unhide H).kept (unhide Hb)).line hl
      clear hnl
      simp only at d1 d2
      obtain ⟨ark, crk, rfl⟩ := ownsRow_form (unhide Ho)
      have q1 : ((n : Int) - 1 - (j : Int)) = ((n - 1 - j : Nat) : Int) := by omega
      rw [q1]
      obtain ⟨m, hm⟩ : ∃ m, n - 1 - j = m := ⟨_, rfl⟩
      rw [hm] at d1 d2 ⊢
      have hmn : m < n := by omega
      have Hq1 := hide q1
      have Hm := hide hm
      clear hl q1 hm
      go_wp2_with (first | (at_builtin; refine wpList_append_own _ rfl (.tmp 12) (.tmp 17) 39 rfl w.heap.size 99 ii (.agg #[.int .i64 0, .int .i64 0]) 2 16 Tryd.underlying39 hi hz0 hz1 hz2 rfl (by decide) (.slice ark j crk) j _ rfl ((unhide Ho).alloc _) ⟨wr.heap.size, 0, none⟩ 1 1 [.int .i64 la, .int .i64 lm] rfl rfl (new2 _ _ (by simp) _ _ _) (fun x hx => by simp at hx; rcases hx with rfl | rfl <;> rfl) (by unfold maxLen; omega) (by omega) (by simp; omega) ?_; intro vq' w5 hown5 hgr5 _; obtain ⟨gf, cf, rfl, hgf, hgf'⟩ := ownsRow_some hown5 (Nat.succ_pos _); have Hown5 := hide hown5; have Hgr5 := hide hgr5; clear hown5 hgr5))
      go_roundg (n - (j + 1))
      case measure => omega
      case rel =>
        refine ⟨j + 1, by omega, rfl, ?_, ?_, ?_⟩
        · have h1 := unhide Hm
          have h2 := unhide Hq1
          congr 1
          first | omega | (unfold wrap64; omega)
        · show World.ownsRow _ _ _ _ _ _ _
          rw [unhide Hrv]
          exact unhide Hown5
        · exact ((unhide Hb).alloc hsz _).grown (unhide Hgr5) (by simp; omega) (fun k hk => (ownsRow_tg (unhide Ho) k hk).1)
    · obtain rfl : j = n := by omega
      obtain ⟨ark, crk, rfl⟩ := ownsRow_form (unhide Ho)
      have Hfin : Hid (wr.ownsRow w.heap.size 99 2 (.slice ark j crk) j (cellsL ls.reverse)) := by
        have := unhide Ho
        rw [List.take_of_length_le (by rw [List.length_reverse, unhide Hn]; exact Nat.le_refl _)] at this
        exact this
      have q1 : ¬ ((0 : Int) ≤ (j : Int) - 1 - (j : Int)) := by omega
      go_wp2_with fail
      go_ret
      exact ⟨ark, crk, rfl, unhide Hfin, unhide Hb⟩

end Go.Proofs.YtdchbenfccofpaaDoor
namespace Go.Proofs.YtdchbenfccofpaaDoor
open Go.RowKit Db

set_option maxRecDepth 100000 in
set_option maxHeartbeats 4000000 in
theorem again_any (B q p u : Nat) (s : Bk) (t : Tn) (v : Value) (w : World) (hg : BkGood s) (hu : Uq s) (hm : t ∈ s.txs) (hr : Rec w B q s) (hb : LedW w B p u [] s) (hv : w.ownsRow B 99 2 v t.2.2.length (cellsL t.2.2)) (hT : ∀ w', FrT B tP w w' → Tab w') :
    Calls Tryd.prog 9 #[.pointer (some ⟨q, 0, none⟩), .pointer (some ⟨p, 0, none⟩), .agg #[.int .i64 t.1, .int .i64 t.2.1, v]] w fun e w' => e = .returned (.bool true) ∧ Rec w' B q s ∧ LedW w' B p u [] s ∧ FrT B tP w w' := by
  obtain ⟨id, day, ls⟩ := t
  simp only at hv ⊢
  obtain ⟨ao, cap, rfl⟩ := ownsRow_form hv
  obtain ⟨bx, hbx⟩ : ∃ bx, w.heap.size = bx := ⟨_, rfl⟩
  obtain ⟨W, hW⟩ : ∃ W, w.alloc (.cells #[.int .i64 id, .int .i64 day, .slice ao ls.length cap] 41) = W := ⟨_, rfl⟩
  have HX : Hid (Blk W bx #[.int .i64 id, .int .i64 day, .slice ao ls.length cap] 41) := by rw [← hW, ← hbx]; exact Blk.new _ _ _
  have Hb0 : Hid (Below w.heap.size w W) := by rw [← hW]; exact (Below.refl _ _).alloc (Nat.le_refl _) _
  have htx := hg.tx _ hm
  simp only at htx
  have h4 : ls.length ≤ 4 := htx.2.2.2.2.1
  have hd0 : 0 ≤ day := htx.2.2.1
  have hd9 : day ≤ 999 := htx.2.2.2.1
  have HP := hide (fun (wx : World) (d : Int) (vx : Value) (lx : List Ln) (h : LedW wx B p u [] s) (hl : LinesAt wx vx lx) (hty : ∀ k, vx.ownBlock = some k → Tg wx k 99) => post_old B p u s (id, day, ls) d vx lx wx hg hu hm h hl hty)
  simp only at HP
  have HT : Hid (∀ w', FrT B tP W w' → Tab w') := fun w' hf => hT w' ((FrT.of_below (unhide Hb0)).trans hf)
  have HR0 := hide (hr.kept (unhide Hb0))
  have HL0 := hide (hb.kept (unhide Hb0))
  have HV0 := hide (ownsRow_below hv (unhide Hb0))
  have x2 := (unhide HX).cell 2
  simp only [List.getElem?_toArray, List.getElem?_cons_zero, List.getElem?_cons_succ] at x2
  clear hg hu hm hr hb hv hT htx
  go_enter Tryd.func9, Tryd.ntmps9
  go_wp2_with fail
  try rw [hW]
  try rw [hbx]
  clear hW hbx
  -- the first: as it was
  refine (copied_any _ ls _ (LinesAt.of_own (unhide HV0)) (by omega)).mono ?_
  rintro e w1 ⟨rfl, k1, k2⟩
  have HX1 := hide ((unhide HX).kept k2)
  have y0 := (unhide HX1).cell 0
  have y1 := (unhide HX1).cell 1
  simp only [List.getElem?_toArray, List.getElem?_cons_zero, List.getElem?_cons_succ] at y0 y1
  have Hp1 := hide (unhide HP w1 day _ ls ((unhide HL0).kept k2) (LinesAt.of_blk (cap := ls.length) k1) (fun k hk => by simp only [Value.ownBlock, Option.some.injEq] at hk; subst hk; exact k1.tg))
  rw [repE_yes ⟨rfl, rfl⟩] at Hp1
  have HF1 : Hid (FrT B tP W w1) := FrT.of_below k2
  have HR1 := hide ((unhide HR0).kept k2)
  clear k1 k2 x2
  go_wp2_with fail
  refine (unhide Hp1).mono ?_
  rintro e w2 ⟨rfl, k1, k2⟩
  have HF2 := hide ((unhide HF1).trans k2)
  have HR2 := hide ((unhide HR1).frP k2)
  have HL2 := hide k1
  clear k1 k2 y0 y1 Hp1
  go_wp2_with fail
  refine (quiet_any B q p u [] s w2 (unhide HR2) (unhide HL2) (fun w' hf => unhide HT w' ((unhide HF2).trans hf))).mono ?_
  rintro e w3 ⟨rfl, k1, k2, k3⟩
  have HF3 := hide ((unhide HF2).trans k3)
  have HR3 := hide k1
  have HL3 := hide k2
  have HX3 := hide ((unhide HX).frT (unhide HF3) (by decide))
  have HV3 := hide (ownsRow_frT (unhide HV0) (unhide HF3) (by decide))
  have x2 := (unhide HX3).cell 2
  simp only [List.getElem?_toArray, List.getElem?_cons_zero, List.getElem?_cons_succ] at x2
  simp only [List.length_nil, decide_true]
  clear k1 k2 k3
  go_wp2_with fail
  -- the second: on another day
  refine (copied_any _ ls _ (LinesAt.of_own (unhide HV3)) (by omega)).mono ?_
  rintro e w4 ⟨rfl, k1, k2⟩
  have HX4 := hide ((unhide HX3).kept k2)
  have y0 := (unhide HX4).cell 0
  have y1 := (unhide HX4).cell 1
  simp only [List.getElem?_toArray, List.getElem?_cons_zero, List.getElem?_cons_succ] at y0 y1
  have Hp4 := hide (unhide HP w4 (day + 1) _ ls ((unhide HL3).kept k2) (LinesAt.of_blk (cap := ls.length) k1) (fun k hk => by simp only [Value.ownBlock, Option.some.injEq] at hk; subst hk; exact k1.tg))
  rw [repE_no (by omega)] at Hp4
  have HF4 := hide ((unhide HF3).then k2)
  have HR4 := hide ((unhide HR3).kept k2)
  clear k1 k2 x2
  go_wp2_with fail
  refine (unhide Hp4).mono ?_
  rintro e w5 ⟨rfl, k1, k2⟩
  have HF5 := hide ((unhide HF4).trans k2)
  have HR5 := hide ((unhide HR4).frP k2)
  have HL5 := hide k1
  clear k1 k2 y0 y1 Hp4
  go_wp2_with fail
  refine (quiet_any B q p u [] s w5 (unhide HR5) (unhide HL5) (fun w' hf => unhide HT w' ((unhide HF5).trans hf))).mono ?_
  rintro e w6 ⟨rfl, k1, k2, k3⟩
  have HF6 := hide ((unhide HF5).trans k3)
  have HR6 := hide k1
  have HL6 := hide k2
  have HX6 := hide ((unhide HX).frT (unhide HF6) (by decide))
  have HV6 := hide (ownsRow_frT (unhide HV0) (unhide HF6) (by decide))
  have x2 := (unhide HX6).cell 2
  simp only [List.getElem?_toArray, List.getElem?_cons_zero, List.getElem?_cons_succ] at x2
  simp only [List.length_nil, decide_true]
  clear k1 k2 k3
  go_wp2_with fail
  -- the third: in the other order
  refine (turned_any _ ls _ (LinesAt.of_own (unhide HV6)) h4).mono ?_
  rintro e w7 ⟨ar, cr, rfl, k0, k2⟩
  have k1 : w7.ownsRow w6.heap.size 99 2 (.slice ar ls.length cr) ls.reverse.length (cellsL ls.reverse) := by rw [List.length_reverse]; exact k0
  have HX7 := hide ((unhide HX6).kept k2)
  have y0 := (unhide HX7).cell 0
  have y1 := (unhide HX7).cell 1
  have y2 := (unhide HX7).cell 2
  simp only [List.getElem?_toArray, List.getElem?_cons_zero, List.getElem?_cons_succ] at y0 y1 y2
  have hrl : ls.reverse.length ≤ 4 := by rw [List.length_reverse]; exact h4
  have Hs7 := hide (same_any ls.reverse ls (.slice ar ls.length cr) (.slice ao ls.length cap) w7 (LinesAt.of_own k1) ((LinesAt.of_own (unhide HV6)).kept k2) hrl)
  have Hp7 := hide (fun (n : Nat) => unhide HP (w7.drewN n) day _ ls.reverse (((unhide HL6).kept k2).kept ((Below.refl _ _).drewN n)) ((LinesAt.of_own k1).kept ((Below.refl _ _).drewN n)) (fun k hk => (ownsRow_tg k1 k hk).2))
  have HF7 := hide ((unhide HF6).then k2)
  have HR7 := hide ((unhide HR6).kept k2)
  obtain ⟨y, hy, hry⟩ : ∃ y : Bool, sameB ls.reverse ls = y ∧ repE day day ls ls.reverse = (if y then 0 else 13) := by
    by_cases h : ls.reverse = ls
    · exact ⟨true, by unfold sameB; simp [h], by rw [repE_yes ⟨rfl, h.symm⟩]; rfl⟩
    · exact ⟨false, by unfold sameB; simp [h], by rw [repE_no (fun h2 => h h2.2.symm)]; rfl⟩
  rw [hy] at Hs7
  rw [hry] at Hp7
  clear k0 k1 k2 x2 hy hry
  cases y
  all_goals
    first | simp only [if_true] at Hp7 | simp only [Bool.false_eq_true, if_false] at Hp7
    go_wp2_with fail
    refine (unhide Hs7).mono ?_
    rintro e w8 ⟨rfl, n8, hw8⟩
    rw [hw8]
    clear hw8 w8
    go_wp2_with fail
    refine (unhide Hp7 n8).mono ?_
    rintro e w9 ⟨rfl, k1, k2⟩
    have HF9 : Hid (FrT B tP W w9) := ((unhide HF7).drewN n8).trans k2
    have HR9 := hide (((unhide HR7).kept ((Below.refl _ _).drewN n8)).frP k2)
    have HL9 := hide k1
    clear k1 k2 y0 y1 y2 Hp7
    go_wp2_with fail
    refine (quiet_any B q p u [] s w9 (unhide HR9) (unhide HL9) (fun w' hf => unhide HT w' ((unhide HF9).trans hf))).mono ?_
    rintro e w10 ⟨rfl, k1, k2, k3⟩
    have HF : Hid (Rec w10 B q s ∧ LedW w10 B p u [] s ∧ FrT B tP w w10) := ⟨k1, k2, (FrT.of_below (unhide Hb0)).trans ((unhide HF9).trans k3)⟩
    simp only [List.length_nil, decide_true]
    clear k1 k2 k3
    go_wp2_with fail
    go_ret
    exact ⟨rfl, unhide HF⟩

set_option maxRecDepth 100000 in
set_option maxHeartbeats 4000000 in
theorem twice_walk (v : Value) (xs : List KAct) (w : World) (h : KActsAt w w.heap.size v xs) (hlen : xs.length ≤ 9223372036854775800) (ht : Tab w) :
    Calls Tryd.prog 4 #[v] w fun e w' => e = .returned (.bool true) ∧ Below w.heap.size w w' := by
  obtain ⟨ao, cap, rfl⟩ : ∃ ao cap, v = .slice ao xs.length cap := by obtain ⟨⟨ao, cap, rfl, _⟩, _⟩ := h; exact ⟨ao, cap, rfl⟩
  have H := hide h
  have Ht := hide ht
  obtain ⟨hgood, huq⟩ := krun_uq xs rdy rdy_uq.1 rdy_uq.2
  obtain ⟨⟨s, u0, ws0⟩, hks⟩ : ∃ t, krun rdy xs = t := ⟨_, rfl⟩
  rw [hks] at hgood huq
  simp only at hgood huq
  have Hks := hide hks
  have Hgood := hide hgood
  have Huq := hide huq
  have h64 := hgood.posts
  clear h ht hgood huq hks
  go_enter Tryd.func4, Tryd.ntmps4
  go_wp2_with fail
  refine (kplayed_any _ xs w (unhide H) hlen (unhide Ht)).mono ?_
  rintro e w1 ⟨q, p, rfl, h1, hb1⟩
  rw [unhide Hks] at h1
  have H1 := hide h1
  have Hb1 := hide hb1
  have hsz1 := hb1.size
  clear h1 hb1
  go_wp2_with fail
  refine (dayWrites_any w.heap.size p u0 ws0 s w1 (unhide H1).led).mono ?_
  rintro e w2 ⟨⟨ao2, cap2, rfl, _⟩, k2, k3⟩
  have HR2 := hide ((unhide H1).rec'.frB k3)
  have HL2 := hide k2
  have Hb2 : Hid (Below w.heap.size w w2) := (unhide Hb1).trans (k3.below hsz1)
  clear k2 k3 H1
  go_wp2_with fail
  go_loopg [5, 6] s.txs.length (fun mm vo vi wr => ∃ j : Nat, j ≤ s.txs.length ∧ mm = s.txs.length - j ∧ vi = .int .i64 j ∧ vo = .bool true ∧ Hid (Rec wr w.heap.size q s) ∧ Hid (LedW wr w.heap.size p u0 [] s) ∧ Hid (Below w.heap.size w wr))
  case atStart => exact ⟨0, by omega, rfl, rfl, rfl, unhide HR2, unhide HL2, unhide Hb2⟩
  case round =>
    obtain ⟨j, hj, rfl, rfl, rfl, HR, HL, Hb⟩ := hrel
    have hszr := (unhide Hb).size
    obtain ⟨vp, vc, vt, tv, hrec⟩ := unhide HR
    have htl : tv.length = s.txs.length := by rw [← hrec.jr, List.length_map]
    have c2 := hrec.blk.cell 2
    simp only [List.getElem?_toArray, List.getElem?_cons_zero, List.getElem?_cons_succ] at c2
    obtain ⟨at', capt, rfl⟩ := ownsRow_form hrec.txs.own
    rw [htl] at c2
    by_cases hlt : j < s.txs.length
    · obtain ⟨⟨t, vl⟩, hx⟩ : ∃ x, tv[j]? = some x := ⟨tv[j]'(by omega), List.getElem?_eq_getElem _⟩
      have h3 := three_get (fun x : Tn × Value => Value.int .i64 x.1.1) (fun x => .int .i64 x.1.2.1) (fun x => x.2) tv j (t, vl) hx
      obtain ⟨g, _, e1, hg, hg'⟩ := ownsRow_some hrec.txs.own (by omega)
      simp only [Value.slice.injEq, true_and] at e1
      obtain ⟨rfl, rfl⟩ := e1
      have d0 := ownsRow_cell hrec.txs.own (j := j * 3) h3.1
      have d1 := ownsRow_cell hrec.txs.own (j := j * 3 + 1) h3.2.1
      have d2 := ownsRow_cell hrec.txs.own (j := j * 3 + 2) h3.2.2
      have hmem : t ∈ s.txs := by rw [← hrec.jr]; exact List.mem_map_of_mem (List.mem_of_getElem? hx)
      have hln := hrec.txs.lns _ (List.mem_of_getElem? hx)
      simp only at hln
      have Hag := hide (again_any w.heap.size q p u0 s t vl wr (unhide Hgood) (unhide Huq) hmem (unhide HR) (unhide HL) hln (fun w' hf => (unhide Ht).below ((unhide Hb).trans (hf.below hszr))))
      obtain ⟨al, cl, rfl⟩ := ownsRow_form hln
      have jlt : (j : Int) < (s.txs.length : Int) := by omega
      simp only at d0 d1 d2
      clear hrec hx h3 hmem hln
      go_wp2_with fail
      refine (unhide Hag).mono ?_
      rintro e w3 ⟨rfl, k1, k2, k3⟩
      have HF : Hid (Rec w3 w.heap.size q s ∧ LedW w3 w.heap.size p u0 [] s ∧ Below w.heap.size w w3) := ⟨k1, k2, (unhide Hb).trans (k3.below hszr)⟩
      clear k1 k2 k3 Hag
      go_wp2_with fail
      go_roundg (s.txs.length - (j + 1))
      case measure => omega
      case rel => exact ⟨j + 1, by omega, rfl, by go_num, rfl, (unhide HF).1, (unhide HF).2.1, (unhide HF).2.2⟩
    · obtain rfl : j = s.txs.length := by omega
      clear hrec
      go_wp2_with fail
      go_ret
      exact ⟨rfl, unhide Hb⟩

end Go.Proofs.YtdchbenfccofpaaDoor
