/- Own texts of the theorem in YtdchbenfccofpaaGreatDoorWAlY, part 22. -/
import Derived.Test.YtdchbenfccofpaaGreatDoorJ21
import Derived.Test.YtdchbenfccofpaaGreatDoorJ07
import Derived.Test.YtdchbenfccofpaaGreatDoorJ19
import Derived.Test.YtdchbenfccofpaaGreatDoorJ04
import Derived.Laws.AppendOwnNone
import Derived.Test.YtdchbenfccofpaaGreatDoorJ05
import Derived.Maps.AppendAt
import Derived.Deep.DeepAppendWide
set_option maxRecDepth 100000
set_option maxHeartbeats 16000000
namespace Go.Proofs.YtdchbenfccofpaaGreatDoor
open Go.RowKit Db
theorem coded_any (B p : Nat) (b : Bk) (s u : ByteArray) (er : Int) (w : World) (h : Rfd w B p b) (hm : s.size ≤ maxLen) (hc : CompIs s u er) :
  Calls Tryz.prog 45 #[.pointer (some ⟨p, 0, none⟩), .string s, .string u, .int .i64 er] w fun e w' => e = .returned (.bool true) ∧ Below w.heap.size w w' := by
 rcases hc with ⟨hs, rfl, rfl⟩ | ⟨hs, rfl, hp, rfl⟩ | ⟨hs, pd, rows, pss, pl, hf, ho, ⟨h0, rfl⟩ | ⟨rfl, hu, hus, hbd⟩⟩
 ·clear h
  go_enter Tryz.func45, Tryz.ntmps45
  go_wp2_with fail
  refine (refRead_long s _ hs hm).mono ?_
  rintro e w1 ⟨rfl, hb⟩
  have Hb := hI hb
  have hsz := hb.size
  clear hb
  go_wp2_with fail
  go_ret
  exact ⟨rfl, Hb.u.alloc hsz _⟩
 ·obtain ⟨pp, hpp⟩ : ∃ pp, plc 0 0 0 0 (L s) = pp := ⟨_, rfl⟩
  have Hp := hI hp
  have Hpp := hI hpp
  clear hp hpp h
  go_enter Tryz.func45, Tryz.ntmps45
  go_wp2_with fail
  refine (refRead_form s _ hs Hp.u).mono ?_
  rintro e w1 ⟨rfl, hb⟩
  rw [Hpp.u]
  have Hb := hI hb
  have hsz := hb.size
  clear hb
  go_wp2_with fail
  go_ret
  exact ⟨rfl, Hb.u.alloc hsz _⟩
 ·have Hf := hI hf
  have Ho := hI ho
  have hne : (er == 0) = false := by simpa using h0
  have e1 : (er == er) = true := by simp
  clear hf ho h
  go_enter Tryz.func45, Tryz.ntmps45
  go_wp2_with fail
  refine (refRead_ok s _ hs pd rows pss Hf.u).mono ?_
  rintro e w1 ⟨a1, n1, k1, a2, n2, k2, a3, n3, k3, er', pl', rfl, ho', hb, _⟩
  have hh := Ho.u.symm.trans ho'
  simp only [Prod.mk.injEq] at hh
  obtain ⟨rfl, rfl⟩ := hh
  have Hb := hI hb
  have hsz := hb.size
  clear hb ho'
  go_wp2_with fail
  go_ret
  exact ⟨rfl, Hb.u.alloc hsz _⟩
 ·exact coded_ok B p b s u w hs pd rows pss pl hf ho h hu hus hbd
theorem compiled_any (B q c : Nat) (v0 v2 v3 : Value) (tq : Nat) (s : Bk) (kd bk a b : Int) (ao : Option Addr) (n cap : Nat) (t : ByteArray) (w : World) (hq : Blk w q #[v0, .pointer (some ⟨c, 0, none⟩), v2, v3] tq) (h : Rfd w B c s) (hm : t.size ≤ maxLen) (ht : Tab w) :
  Calls Tryz.prog 16 #[.pointer (some ⟨q, 0, none⟩), .agg #[.int .i64 kd, .int .i64 bk, .int .i64 a, .int .i64 b, .slice ao n cap, .string t]] w fun e w' => e = .returned (.bool true) ∧ Below w.heap.size w w' := by
 obtain ⟨bx, hbx⟩ : ∃ bx, w.heap.size = bx := ⟨_, rfl⟩
 obtain ⟨W, hW⟩ : ∃ W, w.alloc (.cells #[.int .i64 kd, .int .i64 bk, .int .i64 a, .int .i64 b, .slice ao n cap, .string t] 33) = W := ⟨_, rfl⟩
 have HX : Hid (Blk W bx #[.int .i64 kd, .int .i64 bk, .int .i64 a, .int .i64 b, .slice ao n cap, .string t] 33) := by rw [← hW, ← hbx]; exact Blk.new _ _ _
 have Hb0 : Hid (Below w.heap.size w W) := by rw [← hW]; exact (Below.refl _ _).alloc (Nat.le_refl _) _
 have hWs : w.heap.size ≤ W.heap.size := Hb0.u.size
 have Hop := hI (fun (wx : World) (hb : Below w.heap.size w wx) => dayCompile_any t wx hm (ht.below hb))
 have Hor := hI (fun (wx : World) (u : ByteArray) (er : Int) (hb : Below w.heap.size w wx) (hc : CompIs t u er) => coded_any B c s t u er wx (h.kept hb) hm hc)
 have Hq := hI (hq.kept Hb0.u)
 have x5 := HX.u.cell 5
 simp only [List.getElem?_toArray, List.getElem?_cons_zero, List.getElem?_cons_succ] at x5
 clear h hq
 go_enter Tryz.func16, Tryz.ntmps16
 go_wp2_with fail
 try rw [hW]
 try rw [hbx]
 have Hbx := hI hbx
 clear hW hbx
 refine (Hop.u _ (by exact Hb0.u)).mono ?_
 rintro e w4 ⟨u, er, rfl, hu, hb4⟩
 have Hu := hI hu
 have Hb4 := hI (Hb0.u.then' hWs hb4)
 have k1 := (Hq.u.kept hb4).cell 1
 have k5 := (HX.u.kept hb4).cell 5
 simp only [List.getElem?_toArray, List.getElem?_cons_zero, List.getElem?_cons_succ] at k1 k5
 have hs4 : w.heap.size ≤ w4.heap.size := Hb4.u.size
 clear hu hb4 x5
 go_upto_region 2 with fail
 go_region_held3 (fun w' => w'.cell? ⟨q, 1, none⟩ = some (.pointer (some ⟨c, 0, none⟩)) ∧ w'.cell? ⟨bx, 5, none⟩ = some (.string t)) (first | go_keep | exact ⟨kept_cell' hb5 (by simp [*]), kept_cell' hb5 (by simp [*])⟩) (first | (go_at_call 45; refine (Hor.u _ u er (by exact Hb4.u.drew) Hu.u).mono ?_; rintro e w5 ⟨rfl, hb5⟩))
 have Hb5 := hI (Hb4.u.then' hs4 hb5.undrew)
 clear hb5
 go_wp2_with fail
 go_ret
 exact ⟨rfl, Hb5.u⟩
theorem own_lt' {w : World} {B : Nat} {e : TypeId} {size : Nat} {v : Value} {n : Nat} {xs : List Value} (ho : w.ownsRow B e size v n xs) : ∀ k, v.ownBlock = some k → B ≤ k ∧ k < w.heap.size := by
 intro k hk
 obtain ⟨h1, cs, fz, h2⟩ := oTg ho k hk
 exact ⟨h1, (Array.getElem?_eq_some_iff.1 h2).1⟩
theorem own_kept {X : Nat → Prop} {w w' : World} {B' : Nat} {Ts : List TypeId} (hf : FrX X B' Ts w w') {B : Nat} {e : TypeId} {size : Nat} {v : Value} {n : Nat} {xs : List Value} (ho : w.ownsRow B e size v n xs) (hx : ∀ k, v.ownBlock = some k → X k) : w'.ownsRow B e size v n xs := by
 refine ⟨ho.1, ?_⟩
 rcases ho.2 with hn | ⟨g, cap, cur, rfl, hbg, hgg, rest⟩
 ·exact .inl hn
 ·refine .inr ⟨g, cap, cur, rfl, hbg, ?_, rest⟩
  rw [hf.keep g (hx g rfl) (Array.getElem?_eq_some_iff.1 hgg).1]
  exact hgg
def HeadB (q : Nat) (vh vl : Value) (hs : List (Value × Nat)) (k : Nat) : Prop := k = q ∨ vh.ownBlock = some k ∨ vl.ownBlock = some k ∨ ∃ h ∈ hs, h.1.ownBlock = some k
structure PairIn (D : Nat → Prop) (w : World) (B q p c : Nat) (vh vl va vt : Value) (tv : List (Tn × Value)) (d : Dk) (vp vc vt2 : Value) (tv2 : List (Tn × Value)) (hs : List (Value × Nat)) (s : Bk) : Prop where
 blk : Blk w q #[.pointer (some ⟨p, 0, none⟩), .pointer (some ⟨c, 0, none⟩), vh, vl] 30
 led : LedAt w B p va vt tv d s
 prw : PrW d.ws
 rfd : RefAt w B c vp vc vt2 tv2 s
 hds : HeadsAt w B vh vl hs
 dh : ∀ k, HeadB q vh vl hs k → D k
 dp : D p
 da : ∀ k, va.ownBlock = some k → D k
 dt : ∀ k, vt.ownBlock = some k → D k
 dw : ∀ k, d.vw.ownBlock = some k → D k
 dc : D c
 dvp : ∀ k, vp.ownBlock = some k → D k
 dvc : ∀ k, vc.ownBlock = some k → D k
 dvt : ∀ k, vt2.ownBlock = some k → D k
 sw : ∀ k, d.vw.ownBlock = some k → ∀ h ∈ hs, h.1.ownBlock ≠ some k
 sp : ∀ k, vp.ownBlock = some k → vl.ownBlock ≠ some k
 tg : ∀ h ∈ hs, ∀ k, h.1.ownBlock = some k → B ≤ k ∧ Tg w k 153
 top : ∀ k, D k → k < w.heap.size
 few : hs.length ≤ 8000000000000
 qlo : B ≤ q
def PairD (D : Nat → Prop) (w : World) (B q : Nat) (s : Bk) (n : Nat) : Prop := ∃ p c vh vl va vt tv d vp vc vt2 tv2 hs, PairIn D w B q p c vh vl va vt tv d vp vc vt2 tv2 hs s ∧ hs.length = n
theorem tg_keep {X : Nat → Prop} {B' : Nat} {Ts : List TypeId} {w w' : World} {k : Nat} {T : TypeId} (hf : FrX X B' Ts w w') (hx : X k) (h : Tg w k T) : Tg w' k T := by
 obtain ⟨cs, fz, hg⟩ := h
 exact ⟨cs, fz, by rw [hf.keep k hx (Array.getElem?_eq_some_iff.1 hg).1]; exact hg⟩
theorem HeadsAt.keepX {X : Nat → Prop} {w w' : World} {B B' q : Nat} {vh vl : Value} {hs : List (Value × Nat)} {Ts : List TypeId} (h : HeadsAt w B vh vl hs) (hf : FrX X B' Ts w w') (hx : ∀ k, HeadB q vh vl hs k → X k) (hl : ∀ h ∈ hs, ∀ k, h.1.ownBlock = some k → k < w.heap.size) : HeadsAt w' B vh vl hs :=
 ⟨own_kept hf h.heads (fun k hk => hx k (.inr (.inl hk))), own_kept hf h.lists (fun k hk => hx k (.inr (.inr (.inl hk)))), fun x hm => ⟨(h.marks x hm).1.same hf.fr.size (fun g hg => hf.keep g (hx g (.inr (.inr (.inr ⟨x, hm, hg⟩)))) (hl x hm g hg)), (h.marks x hm).2⟩⟩
theorem PairD.other {D X : Nat → Prop} {w w' : World} {B B' q : Nat} {s : Bk} {n : Nat} {Ts : List TypeId} (h : PairD D w B q s n) (hf : FrX X B' Ts w w') (hl : 89 ∉ Ts) (hx : ∀ k, D k → X k) : PairD D w' B q s n := by
 obtain ⟨p, c, vh, vl, va, vt, tv, d, vp, vc, vt2, tv2, hs, h, hn⟩ := h
 have own : ∀ {e : TypeId} {size : Nat} {v : Value} {n : Nat} {xs : List Value}, w.ownsRow B e size v n xs → (∀ k, v.ownBlock = some k → D k) → w'.ownsRow B e size v n xs := fun ho hd => own_kept hf ho (fun k hk => hx k (hd k hk))
 have blk : ∀ {b : Nat} {cs : Array Value} {T : TypeId}, Blk w b cs T → D b → Blk w' b cs T := by
  intro b cs T hb hd
  have hlt := hb.lt
  unfold Blk at hb ⊢
  rw [hf.keep b (hx b hd) hlt]; exact hb
 refine ⟨p, c, vh, vl, va, vt, tv, d, vp, vc, vt2, tv2, hs, ⟨blk h.blk (h.dh q (.inl rfl)), ?_, h.prw, ?_, h.hds.keepX (q := q) hf (fun k hk => hx k (h.dh k hk)) (fun x hm k hk => h.top k (h.dh k (.inr (.inr (.inr ⟨x, hm, hk⟩))))), h.dh, h.dp, h.da, h.dt, h.dw, h.dc, h.dvp, h.dvc, h.dvt, h.sw, h.sp, fun x hm k hk => ⟨(h.tg x hm k hk).1, tg_keep hf (hx k (h.dh k (.inr (.inr (.inr ⟨x, hm, hk⟩))))) (h.tg x hm k hk).2⟩, fun k hk => Nat.lt_of_lt_of_le (h.top k hk) hf.fr.size, h.few, h.qlo⟩, hn⟩
 ·exact ⟨blk h.led.blk h.dp, h.led.lo, own h.led.acs h.da, ⟨own h.led.txs.own h.dt, fun x hm => oFrT (h.led.txs.lns x hm) hf.fr hl⟩, h.led.jr, h.led.good, own h.led.dsk h.dw, h.led.dlen, h.led.dcnt⟩
 ·exact ⟨blk h.rfd.blk h.dc, h.rfd.lo, own h.rfd.par h.dvp, own h.rfd.clo h.dvc, ⟨own h.rfd.txs.own h.dvt, fun x hm => oFrT (h.rfd.txs.lns x hm) hf.fr hl⟩, h.rfd.jr, h.rfd.good⟩
theorem PairD.kept {D : Nat → Prop} {w w' : World} {B q : Nat} {s : Bk} {n : Nat} (h : PairD D w B q s n) (hb : Below w.heap.size w w') : PairD D w' B q s n :=
 h.other (FrX.of_below (X := fun _ => True) (B := 0) (Ts := []) hb) (by simp) (fun _ _ => trivial)
def KeepB (D : Nat → Prop) (w : World) (q : Nat) (vh vl : Value) (hs : List (Value × Nat)) (k : Nat) : Prop := k < w.heap.size ∧ (¬ D k ∨ HeadB q vh vl hs k)
theorem ty_ne {w : World} {k : Nat} {T U : TypeId} (h : Tg w k T) (h' : Tg w k U) : T = U := by
 obtain ⟨cs, fz, hg⟩ := h
 obtain ⟨ds, gz, hg'⟩ := h'
 rw [hg] at hg'
 simp at hg'
 exact hg'.2.1
theorem PairIn.pairX {D : Nat → Prop} {w : World} {B q p c : Nat} {vh vl va vt : Value} {tv : List (Tn × Value)} {d : Dk} {vp vc vt2 : Value} {tv2 : List (Tn × Value)} {hs : List (Value × Nat)} {s : Bk} (h : PairIn D w B q p c vh vl va vt tv d vp vc vt2 tv2 hs s) : PairX (KeepB D w q vh vl hs) w B q p c vh vl s := by
 have no : ∀ {T : TypeId} (k : Nat), D k → Tg w k T → T ≠ 30 → T ≠ 72 → (T = 3 → vl.ownBlock ≠ some k) → (T = 153 → ∀ x ∈ hs, x.1.ownBlock ≠ some k) → ¬ KeepB D w q vh vl hs k := by
  intro T k hd ht n1 n2 n3 n4
  rintro ⟨_, hk | hk⟩
  ·exact hk hd
  ·rcases hk with rfl | hk | hk | ⟨x, hm, hk⟩
   ·exact n1 (ty_ne ht h.blk.tg)
   ·exact n2 (ty_ne ht (oTg h.hds.heads k hk).2)
   ·exact n3 (ty_ne ht (oTg h.hds.lists k hk).2) hk
   ·exact n4 (ty_ne ht (h.tg x hm k hk).2) x hm hk
 have top : ∀ k, KeepB D w q vh vl hs k → k < w.heap.size := fun k hk => hk.1
 refine ⟨h.blk, ⟨va, vt, tv, d, ⟨h.led, ?_, fun k hk => ?_, fun k hk => ?_, fun k hk => ?_, top⟩, h.prw⟩, ⟨vp, vc, vt2, tv2, h.rfd, ?_, fun k hk => ?_, fun k hk => ?_, fun k hk => ?_, top⟩⟩
 ·exact no p h.dp h.led.blk.tg (by decide) (by decide) (fun e => absurd e (by decide)) (fun e => absurd e (by decide))
 ·exact no k (h.da k hk) (oTg h.led.acs k hk).2 (by decide) (by decide) (fun e => absurd e (by decide)) (fun e => absurd e (by decide))
 ·exact no k (h.dt k hk) (oTg h.led.txs.own k hk).2 (by decide) (by decide) (fun e => absurd e (by decide)) (fun e => absurd e (by decide))
 ·exact no k (h.dw k hk) (oTg h.led.dsk k hk).2 (by decide) (by decide) (fun e => absurd e (by decide)) (fun _ x hm => h.sw k hk x hm)
 ·exact no c h.dc h.rfd.blk.tg (by decide) (by decide) (fun e => absurd e (by decide)) (fun e => absurd e (by decide))
 ·exact no k (h.dvp k hk) (oTg h.rfd.par k hk).2 (by decide) (by decide) (fun _ => h.sp k hk) (fun e => absurd e (by decide))
 ·exact no k (h.dvc k hk) (oTg h.rfd.clo k hk).2 (by decide) (by decide) (fun e => absurd e (by decide)) (fun e => absurd e (by decide))
 ·exact no k (h.dvt k hk) (oTg h.rfd.txs.own k hk).2 (by decide) (by decide) (fun e => absurd e (by decide)) (fun e => absurd e (by decide))
theorem PairIn.back {D : Nat → Prop} {w w' : World} {B q p c : Nat} {vh vl va vt : Value} {tv : List (Tn × Value)} {d : Dk} {vp vc vt2 : Value} {tv2 : List (Tn × Value)} {hs : List (Value × Nat)} {s s' : Bk} {B' : Nat} {Ts : List TypeId} (h : PairIn D w B q p c vh vl va vt tv d vp vc vt2 tv2 hs s) (hx : PairX (KeepB D w q vh vl hs) w' B q p c vh vl s') (hf : FrX (KeepB D w q vh vl hs) B' Ts w w') :
  PairD (fun k => D k ∨ (w.heap.size ≤ k ∧ k < w'.heap.size)) w' B q s' hs.length := by
 obtain ⟨hb, ⟨va', vt', tv', d', hl, hp⟩, ⟨vp', vc', vt2', tv2', hr⟩⟩ := hx
 have din : ∀ k, k < w'.heap.size → ¬ KeepB D w q vh vl hs k → D k ∨ (w.heap.size ≤ k ∧ k < w'.heap.size) := by
  intro k hk hn
  by_cases hw : w.heap.size ≤ k
  ·exact .inr ⟨hw, hk⟩
  ·left
   apply Classical.byContradiction
   intro hd
   exact hn ⟨by omega, .inl hd⟩
 have hsz := hf.fr.size
 have hH : ∀ k, HeadB q vh vl hs k → KeepB D w q vh vl hs k := fun k hk => ⟨h.top k (h.dh k hk), .inr hk⟩
 refine ⟨p, c, vh, vl, va', vt', tv', d', vp', vc', vt2', tv2', hs, ⟨hb, hl.toLedAt, hp, hr.toRefAt, h.hds.keepX (q := q) hf hH (fun x hm k hk => h.top k (h.dh k (.inr (.inr (.inr ⟨x, hm, hk⟩))))), fun k hk => .inl (h.dh k hk), din p hl.blk.lt hl.xp, fun k hk => din k (own_lt' hl.acs k hk).2 (hl.xa k hk), fun k hk => din k (own_lt' hl.txs.own k hk).2 (hl.xt k hk), fun k hk => din k (own_lt' hl.dsk k hk).2 (hl.xw k hk), din c hr.blk.lt hr.xq, fun k hk => din k (own_lt' hr.par k hk).2 (hr.xp k hk), fun k hk => din k (own_lt' hr.clo k hk).2 (hr.xc k hk), fun k hk => din k (own_lt' hr.txs.own k hk).2 (hr.xt k hk), ?_, ?_, fun x hm k hk => ⟨(h.tg x hm k hk).1, tg_keep hf (hH k (.inr (.inr (.inr ⟨x, hm, hk⟩)))) (h.tg x hm k hk).2⟩, ?_, h.few, h.qlo⟩, rfl⟩
 ·intro k hk x hm e
  exact hl.xw k hk (hH k (.inr (.inr (.inr ⟨x, hm, e⟩))))
 ·intro k hk e
  exact hr.xp k hk (hH k (.inr (.inr (.inl e))))
 ·rintro k (hk | hk)
  ·exact Nat.lt_of_lt_of_le (h.top k hk) hsz
  ·exact hk.2
def Stepd (D : Nat → Prop) (w w' : World) (B q : Nat) (s : Bk) (n : Nat) : Prop := PairD (fun k => D k ∨ (w.heap.size ≤ k ∧ k < w'.heap.size)) w' B q s n ∧ ∃ Ts, 89 ∉ Ts ∧ 25 ∉ Ts ∧ 151 ∉ Ts ∧ 48 ∉ Ts ∧ FrX (fun k => k < w.heap.size ∧ ¬ D k) B Ts w w'
theorem FrX.sub {X Y : Nat → Prop} {B : Nat} {Ts : List TypeId} {w w' : World} (h : FrX X B Ts w w') (hs : ∀ k, Y k → X k) : FrX Y B Ts w w' := ⟨h.fr, fun k hk hl => h.keep k (hs k hk) hl⟩
theorem PairIn.stepd {D : Nat → Prop} {w w' : World} {B q p c : Nat} {vh vl va vt : Value} {tv : List (Tn × Value)} {d : Dk} {vp vc vt2 : Value} {tv2 : List (Tn × Value)} {hs : List (Value × Nat)} {s s' : Bk} (h : PairIn D w B q p c vh vl va vt tv d vp vc vt2 tv2 hs s) (hx : PairX (KeepB D w q vh vl hs) w' B q p c vh vl s') (hf : FrX (KeepB D w q vh vl hs) B tAll w w') : Stepd D w w' B q s' hs.length :=
 ⟨h.back hx hf, tAll, by decide, by decide, by decide, by decide, FrX.sub hf (fun _ hk => ⟨hk.1, .inl hk.2⟩)⟩
theorem PairD.rest {D : Nat → Prop} {w w' : World} {B q : Nat} {s : Bk} {n : Nat} (h : PairD D w B q s n) (hb : Below w.heap.size w w') : Stepd D w w' B q s n := by
 refine ⟨?_, [], by simp, by simp, by simp, by simp, FrX.of_below hb⟩
 obtain ⟨p, c, vh, vl, va, vt, tv, d, vp, vc, vt2, tv2, hs, h, hn⟩ := h.kept hb
 exact ⟨p, c, vh, vl, va, vt, tv, d, vp, vc, vt2, tv2, hs, ⟨h.blk, h.led, h.prw, h.rfd, h.hds, fun k hk => .inl (h.dh k hk), .inl h.dp, fun k hk => .inl (h.da k hk), fun k hk => .inl (h.dt k hk), fun k hk => .inl (h.dw k hk), .inl h.dc, fun k hk => .inl (h.dvp k hk), fun k hk => .inl (h.dvc k hk), fun k hk => .inl (h.dvt k hk), h.sw, h.sp, h.tg, fun k hk => hk.elim (h.top k) (fun h => h.2), h.few, h.qlo⟩, hn⟩
theorem PairAt.dom {w w' : World} {q p c : Nat} {s : Bk} (h : PairAt w' w.heap.size q p c s) (hq : w.heap.size ≤ q) {B : Nat} (hB : B ≤ w.heap.size) (hp : ∃ va vt tv d, LedAt w' w.heap.size p va vt tv d s ∧ PrW d.ws) : PairD (fun k => w.heap.size ≤ k ∧ k < w'.heap.size) w' B q s 0 := by
 obtain ⟨va, vt, tv, d, hl, hpw⟩ := hp
 obtain ⟨vp, vc, vt2, tv2, hr⟩ := h.rfd
 have hb := h.blk
 refine ⟨p, c, .slice none 0 0, .slice none 0 0, va, vt, tv, d, vp, vc, vt2, tv2, [], ⟨hb, ?_, hpw, hr.base hB, ⟨World.ownsRow_nil _ _ _ _, World.ownsRow_nil _ _ _ _, by simp⟩, ?_, ⟨hl.lo, hl.blk.lt⟩, fun k hk => own_lt' hl.acs k hk, fun k hk => own_lt' hl.txs.own k hk, fun k hk => own_lt' hl.dsk k hk, ⟨hr.lo, hr.blk.lt⟩, fun k hk => own_lt' hr.par k hk, fun k hk => own_lt' hr.clo k hk, fun k hk => own_lt' hr.txs.own k hk, by simp, fun k hk e => by simp [Value.ownBlock] at e, by simp, fun k hk => hk.2, by simp, Nat.le_trans hB hq⟩, rfl⟩
 ·exact ⟨hl.blk, Nat.le_trans hB hl.lo, oDown hl.acs hB, ⟨oDown hl.txs.own hB, fun x hx => oDown (hl.txs.lns x hx) hB⟩, hl.jr, hl.good, oDown hl.dsk hB, hl.dlen, hl.dcnt⟩
 ·rintro k (rfl | hk | hk | ⟨x, hm, _⟩)
  ·exact ⟨hq, hb.lt⟩
  ·simp [Value.ownBlock] at hk
  ·simp [Value.ownBlock] at hk
  ·simp at hm
theorem cellsW_length (l : List Wr) : (cellsW l).length = l.length * 2 := by
 induction l with
 | nil => rfl
 | cons a r ih => unfold cellsW at ih ⊢; simp at ih ⊢; omega
theorem cellsW_one (l : List Wr) : ∀ u ∈ cellsW l, u.oneCell' = true := by
 intro u hu
 unfold cellsW at hu
 rw [List.mem_flatMap] at hu
 obtain ⟨a, _, hu⟩ := hu
 simp at hu
 rcases hu with rfl | rfl <;> rfl
theorem LedAt.told {w w5 : World} {B p u : Nat} {va vt vw : Value} {tv : List (Tn × Value)} {ws : List Wr} {s : Bk} (h : LedAt w B p va vt tv ⟨u, vw, ws⟩ s) (hb : Below w.heap.size w w5) :
  LedAt (w5.setCell ⟨p, 3, none⟩ (.slice none 0 0)) B p va vt tv ⟨u, .slice none 0 0, []⟩ s ∧ FrT B [102] w (w5.setCell ⟨p, 3, none⟩ (.slice none 0 0)) := by
 have h5 := h.kept hb
 have f2 : FrT B [102] w5 (w5.setCell ⟨p, 3, none⟩ (.slice none 0 0)) := (FrT.refl _ _ w5).setCell (T := 102) (by simp) h5.blk.tg h5.lo _
 refine ⟨⟨?_, h5.lo, oFrT h5.acs f2 (by decide), h5.txs.frT f2 (by decide) (by decide), h5.jr, h5.good, World.ownsRow_nil _ _ _ _, Nat.zero_le _, h5.dcnt⟩, (FrT.of_below hb).trans f2⟩
 have := h5.blk.set 3 (.slice none 0 0)
 simpa using this
end Go.Proofs.YtdchbenfccofpaaGreatDoor
namespace Go.RowKit
section
variable {P : Program} {w : World}
theorem run_append_keep (base : Nat) (t ty e : TypeId) (i : TypeInfo) (z : Value) (size bytes : Nat) (ht : P.underlying t = some (.slice e)) (hi : P.info? e = some i) (hz : i.zero = some z)
  (hsize : i.size = size) (hby : i.bytes = bytes) (hzs : z.cells.size = size) (hsz : 0 < size)
  (v : Value) (n : Nat) (xs : List Value) (hown : w.ownsRow base e size v n xs)
  (a : Addr) (m c : Nat) (news : List Value) (hl : news.length = m * size) (hnews : ∀ j u, news[j]? = some u → w.cell? (a.add j) = some u) (h1 : ∀ u ∈ news, u.oneCell' = true)
  (h63 : n + m ≤ maxLen) (hbytes : (n + m) * bytes ≤ 140737488355328) (hbase : base ≤ w.heap.size) :
  ∃ v' w', (Builtin.append_ #[t, t] ty #[v, .slice (some a) m c]).run P w = .ok v' w' ∧ w'.ownsRow base e size v' (n + m) (xs ++ news) ∧
   ((v'.ownBlock = v.ownBlock ∧ w.grownBy w' v.ownBlock) ∨ (v'.ownBlock = some w.heap.size ∧ w.grownBy w' none)) := by
 obtain ⟨v', w', hr, h2, h3, _, h5⟩ := run_append_own_at (P := P) w base t ty e i z size bytes ht hi hz hsize hby hzs hsz v n xs hown a m c news hl hnews h1 h63 hbytes hbase
 refine ⟨v', w', hr, h2, ?_⟩
 subst hsize
 subst hby
 have hal : ∀ o, w.grownBy (w.drew.alloc o) none := fun o => ⟨rfl, rfl, rfl, by simp, fun k hk _ => Below.heap_alloc _ _ _ hk⟩
 rcases hown.2 with ⟨rfl, rfl⟩ | ⟨g, cap, cur, rfl, hbg, hg, hnc, hcm, hcs, htake⟩
 ·rcases h5 with h5 | h5
  ·exact .inl ⟨h5, h3⟩
  ·exact .inr ⟨h5, h3⟩
 ·by_cases hroom : n + m ≤ cap
  ·left
   have hfit : n * i.size + news.length ≤ cur.size := by rw [hl, hcs, ← Nat.add_mul]; exact Nat.mul_le_mul_right _ hroom
   have hr2 := run_append_room (P := P) w t ty e i ht hi g n cap cur hg a m c news hl hnews h1 hroom hfit
   have e2 := hr.symm.trans hr2
   simp only [Result.ok.injEq] at e2
   refine ⟨?_, h3⟩
   rw [e2.1]; rfl
  ·right
   have hr2 := run_append_grow (P := P) w t ty e i z ht hi hz ⟨g, 0, none⟩ n cap xs hown.1 (hown.cells (g := g) rfl) a m c news hl hnews (by omega) (by simp only [maxLen] at h63; omega) (growslice_fits (by omega) hbytes)
   have e2 := hr.symm.trans hr2
   simp only [Result.ok.injEq] at e2
   rw [e2.1, e2.2]
   exact ⟨rfl, hal _⟩
theorem wpList_append_keep {ops : Array Oper} {rest : List Oper} {o : Oper} {a : Act} {Q : Exit → Act → World → Prop} (hgd : o.guard = none) (s x : Operand) (t : TypeId)
  (ho : o.op = .call { callee := .builtin .append, args := #[s, x], argTypes := #[t, t] })
  (base : Nat) (e : TypeId) (i : TypeInfo) (z : Value) (size bytes : Nat) (ht : P.underlying t = some (.slice e)) (hi : P.info? e = some i) (hz : i.zero = some z)
  (hsize : i.size = size) (hby : i.bytes = bytes) (hzs : z.cells.size = size) (hsz : 0 < size)
  (v : Value) (n : Nat) (xs : List Value) (hs : a.eval s = v) (hown : w.ownsRow base e size v n xs)
  (ad : Addr) (m c : Nat) (news : List Value) (hx : a.eval x = .slice (some ad) m c) (hl : news.length = m * size) (hnews : ∀ j u, news[j]? = some u → w.cell? (ad.add j) = some u) (h1 : ∀ u ∈ news, u.oneCell' = true)
  (h63 : n + m ≤ maxLen) (hbytes : (n + m) * bytes ≤ 140737488355328) (hbase : base ≤ w.heap.size)
  (h : ∀ v' w', w'.ownsRow base e size v' (n + m) (xs ++ news) → ((v'.ownBlock = v.ownBlock ∧ w.grownBy w' v.ownBlock) ∨ (v'.ownBlock = some w.heap.size ∧ w.grownBy w' none)) → wpList P ops Q rest (a.put o.dst v') w') : wpList P ops Q (o :: rest) a w := by
 refine wpList_plain hgd fun K hK => ?_
 obtain ⟨v', w', hr, h2, h3⟩ := run_append_keep (P := P) base t o.type e i z size bytes ht hi hz hsize hby hzs hsz v n xs hown ad m c news hl hnews h1 h63 hbytes hbase
 unfold Oper.wp execOp
 simp only [ho, resolve, invoke, builtin, Sem.run_bind, Sem.run_pure, Result.andThen_ok, List.map_toArray, List.map_cons, List.map_nil, hs, hx, hr]
 exact hK _ _ (h v' w' h2 h3)
theorem run_append_atW (base : Nat) (t ty e : TypeId) (i : TypeInfo) (z : Value) (size bytes : Nat) (ht : P.underlying t = some (.slice e)) (hi : P.info? e = some i) (hz : i.zero = some z)
  (hsize : i.size = size) (hby : i.bytes = bytes) (hzs : z.cells.size = size) (hsz : 0 < size)
  (v : Value) (n : Nat) (xs : List Value) (hown : w.ownsRow base e size v n xs)
  (a : Addr) (m c : Nat) (news : List Value) (hl : news.length = m * size) (hnews : ∀ j u, news[j]? = some u → w.cell? (a.add j) = some u) (h1 : ∀ u ∈ news, u.oneCell' = true)
  (h63 : n + m ≤ maxLen) (hmb : m * bytes ≤ 140737488355328) (hbytes : ((n + m) + (n + m) / 4 + 192) * bytes ≤ 281474976710656) (hbase : base ≤ w.heap.size) :
  ∃ v' w', (Builtin.append_ #[t, t] ty #[v, .slice (some a) m c]).run P w = .ok v' w' ∧ w'.ownsRow base e size v' (n + m) (xs ++ news) ∧ w.grownBy w' v.ownBlock ∧
   (v'.ownBlock = v.ownBlock ∨ v'.ownBlock = some w.heap.size) := by
 obtain ⟨v', w', hr, h2, h3, _⟩ := run_append_own_wide (P := P) w base t ty e i z size bytes ht hi hz hsize hby hzs hsz v n xs hown a m c news hl hnews h1 h63 hbytes hbase
 refine ⟨v', w', hr, h2, h3, ?_⟩
 rcases hown.2 with ⟨hv, hn⟩ | ⟨g, cap, cur, hv, hbg, hg, hnc, hcm, hcs, htake⟩
 ·obtain ⟨v2, w2, hr2, _, _, _, h5⟩ := run_append_own_at (P := P) w base t ty e i z size bytes ht hi hz hsize hby hzs hsz v n xs hown a m c news hl hnews h1 h63 (by rw [hn, Nat.zero_add]; exact hmb) hbase
  have e2 := hr.symm.trans hr2
  simp only [Result.ok.injEq] at e2
  rw [e2.1]; exact h5
 ·subst hv
  subst hsize
  subst hby
  by_cases hroom : n + m ≤ cap
  ·left
   have hfit : n * i.size + news.length ≤ cur.size := by rw [hl, hcs, ← Nat.add_mul]; exact Nat.mul_le_mul_right _ hroom
   have hr2 := run_append_room (P := P) w t ty e i ht hi g n cap cur hg a m c news hl hnews h1 hroom hfit
   have e2 := hr.symm.trans hr2
   simp only [Result.ok.injEq] at e2
   rw [e2.1]; rfl
  ·right
   have hr2 := run_append_grow (P := P) w t ty e i z ht hi hz ⟨g, 0, none⟩ n cap xs hown.1 (hown.cells (g := g) rfl) a m c news hl hnews (by omega) (by simp only [maxLen] at h63; omega) (growslice_fits_wide (by omega) hbytes)
   have e2 := hr.symm.trans hr2
   simp only [Result.ok.injEq] at e2
   rw [e2.1]
   rfl
theorem wpList_append_atW {ops : Array Oper} {rest : List Oper} {o : Oper} {a : Act} {Q : Exit → Act → World → Prop} (hgd : o.guard = none) (s x : Operand) (t : TypeId)
  (ho : o.op = .call { callee := .builtin .append, args := #[s, x], argTypes := #[t, t] })
  (base : Nat) (e : TypeId) (i : TypeInfo) (z : Value) (size bytes : Nat) (ht : P.underlying t = some (.slice e)) (hi : P.info? e = some i) (hz : i.zero = some z)
  (hsize : i.size = size) (hby : i.bytes = bytes) (hzs : z.cells.size = size) (hsz : 0 < size)
  (v : Value) (n : Nat) (xs : List Value) (hs : a.eval s = v) (hown : w.ownsRow base e size v n xs)
  (ad : Addr) (m c : Nat) (news : List Value) (hx : a.eval x = .slice (some ad) m c) (hl : news.length = m * size) (hnews : ∀ j u, news[j]? = some u → w.cell? (ad.add j) = some u) (h1 : ∀ u ∈ news, u.oneCell' = true)
  (h63 : n + m ≤ maxLen) (hmb : m * bytes ≤ 140737488355328) (hbytes : ((n + m) + (n + m) / 4 + 192) * bytes ≤ 281474976710656) (hbase : base ≤ w.heap.size)
  (h : ∀ v' w', w'.ownsRow base e size v' (n + m) (xs ++ news) → w.grownBy w' v.ownBlock → (v'.ownBlock = v.ownBlock ∨ v'.ownBlock = some w.heap.size) → wpList P ops Q rest (a.put o.dst v') w') : wpList P ops Q (o :: rest) a w := by
 refine wpList_plain hgd fun K hK => ?_
 obtain ⟨v', w', hr, h2, h3, h4⟩ := run_append_atW (P := P) base t o.type e i z size bytes ht hi hz hsize hby hzs hsz v n xs hown ad m c news hl hnews h1 h63 hmb hbytes hbase
 unfold Oper.wp execOp
 simp only [ho, resolve, invoke, builtin, Sem.run_bind, Sem.run_pure, Result.andThen_ok, List.map_toArray, List.map_cons, List.map_nil, hs, hx, hr]
 exact hK _ _ (h v' w' h2 h3 h4)
end
end Go.RowKit
namespace Go.Proofs.YtdchbenfccofpaaGreatDoor
open Go.RowKit Db
def LedNx (X : Nat → Prop) (w : World) (B p u : Nat) (s : Bk) : Prop := ∃ va vt tv, LedAx X w B p va vt tv ⟨u, .slice none 0 0, []⟩ s
theorem LedAx.told {X : Nat → Prop} {w w5 : World} {B p u : Nat} {va vt vw : Value} {tv : List (Tn × Value)} {ws : List Wr} {s : Bk} (h : LedAx X w B p va vt tv ⟨u, vw, ws⟩ s) (hb : Below w.heap.size w w5) :
  LedAx X (w5.setCell ⟨p, 3, none⟩ (.slice none 0 0)) B p va vt tv ⟨u, .slice none 0 0, []⟩ s ∧ FrX X B [102] w (w5.setCell ⟨p, 3, none⟩ (.slice none 0 0)) := by
 have h5 := h.toLedAt.kept hb
 have f2 : FrX X B [102] w5 (w5.setCell ⟨p, 3, none⟩ (.slice none 0 0)) := (FrX.refl _ _ w5).setCell (T := 102) (by simp) h5.blk.tg h5.lo h.xp _
 refine ⟨⟨⟨?_, h5.lo, oFrT h5.acs f2.fr (by decide), h5.txs.frT f2.fr (by decide) (by decide), h5.jr, h5.good, World.ownsRow_nil _ _ _ _, Nat.zero_le _, h5.dcnt⟩, h.xp, h.xa, h.xt, fun k hk => by simp [Value.ownBlock] at hk, fun k hk => Nat.lt_of_lt_of_le (h.top k hk) (Nat.le_trans hb.size f2.fr.size)⟩, (FrX.of_below hb).trans f2⟩
 have := h5.blk.set 3 (.slice none 0 0)
 simpa using this
theorem diskWritesX_any (X : Nat → Prop) (B p u : Nat) (ws : List Wr) (s : Bk) (w : World) (h : LedWx X w B p u ws s) :
  Calls Tryz.prog 65 #[.pointer (some ⟨p, 2, none⟩)] w fun e w' => (∃ v, e = .returned v ∧ w'.ownsRow w.heap.size 153 2 v ws.length (cellsW ws) ∧ (ws = [] → v = .slice none 0 0)) ∧ LedNx X w' B p u s ∧ FrX X B [102] w w' := by
 obtain ⟨ii, hi, hz0, hz1, hz2⟩ := info_parts info_write
 obtain ⟨va, vt, tv, vw, h⟩ := h
 have hwl := h.dlen
 have hcn := h.dcnt
 have hbd := cnt_bound h.good
 have c3 := h.blk.cell 3
 have z3 := h.blk.frozen 3
 have lq := h.blk.lt
 have hlo := h.lo
 simp only [List.getElem?_toArray, List.getElem?_cons_zero, List.getElem?_cons_succ] at c3
 simp only at hwl hcn
 rcases h.dsk.2 with ⟨hvw, hn⟩ | ⟨g, cap, cur, hvw, hBg, _⟩
 ·simp only at hvw hn
  subst hvw
  obtain rfl : ws = [] := List.length_eq_zero_iff.1 hn
  have H := hI h
  clear h hn
  go_enter Tryz.func65, Tryz.ntmps65
  go_wp2_with (first
   | (at_builtin; refine wpList_append_own_none rfl (.tmp 4) (.tmp 8) 72 rfl w.heap.size 153 ii 2 Tryz.underlying72 hi (.slice none 0 0) 0 [] rfl (World.ownsRow_nil _ _ _ _) rfl ?_))
  go_ret
  have hfin := H.u.told (Below.refl _ w)
  exact ⟨⟨_, rfl, World.ownsRow_nil _ _ _ _, fun _ => rfl⟩, ⟨_, _, _, hfin.1⟩, hfin.2⟩
 ·simp only at hvw
  subst hvw
  have H := hI h
  have Hcs : Hid (∀ j x, (cellsW ws)[j]? = some x → w.cell? ((⟨g, 0, none⟩ : Addr).add j) = some x) := by
   intro j x hj
   rw [Addr.add_lit, Nat.zero_add]
   exact oCell h.dsk hj
  clear h
  go_enter Tryz.func65, Tryz.ntmps65
  go_wp2_with (first
   | (at_builtin; refine wpList_append_own _ rfl (.tmp 4) (.tmp 8) 72 rfl w.heap.size 153 ii (.agg #[.int .i64 0, .string ⟨#[]⟩]) 2 24 Tryz.underlying72 hi hz0 hz1 hz2 rfl (by decide) (.slice none 0 0) 0 [] rfl (World.ownsRow_nil _ _ _ _) ⟨g, 0, none⟩ ws.length cap (cellsW ws) rfl (cellsW_length ws) Hcs.u (cellsW_one ws) (by unfold maxLen; omega) (by omega) (Nat.le_refl _) ?_; intro vk w3 hown3 hgr3 hnil3; have hb3 := below_of_none hgr3; simp only [Nat.zero_add, List.nil_append] at hown3; have Hnil3 : Hid (ws = [] → vk = .slice none 0 0) := (fun e => hnil3.2 ⟨rfl, by rw [e]; rfl⟩); obtain ⟨ak, ck, rfl⟩ := oForm hown3; have H3 := hI (H.u.keptX hb3); have c5 := H3.u.blk.cell 3; have z5 := H3.u.blk.frozen 3; have l5 := H3.u.blk.lt; simp only [List.getElem?_toArray, List.getElem?_cons_zero, List.getElem?_cons_succ] at c5; have Hown3 := hI hown3; have Hb3 := hI hb3; clear hown3 hgr3 hb3 hnil3))
  go_ret
  have hfin := H.u.told Hb3.u
  exact ⟨⟨_, rfl, oFrT Hown3.u ((FrT.refl B [102] w3).setCell (p := ⟨p, 3, none⟩) (T := 102) (by simp) H3.u.blk.tg hlo _) (by decide), Hnil3.u⟩, ⟨_, _, _, hfin.1⟩, hfin.2⟩
theorem dayWritesX_any (X : Nat → Prop) (B p u : Nat) (ws : List Wr) (s : Bk) (w : World) (h : LedWx X w B p u ws s) :
  Calls Tryz.prog 34 #[.pointer (some ⟨p, 0, none⟩)] w fun e w' => (∃ ao cap, e = .returned (.slice ao ws.length cap) ∧ w'.ownsRow w.heap.size 153 2 (.slice ao ws.length cap) ws.length (cellsW ws) ∧ (ws = [] → ao = none ∧ cap = 0)) ∧ LedNx X w' B p u s ∧ FrX X B [102] w w' := by
 have Hc := hI (diskWritesX_any X B p u ws s w h)
 clear h
 go_enter Tryz.func34, Tryz.ntmps34
 go_wp2_with fail
 refine Hc.u.mono ?_
 rintro e w1 ⟨⟨v, rfl, k1, k4⟩, k2, k3⟩
 obtain ⟨ao, cap, rfl⟩ := oForm k1
 have HF : Hid (w1.ownsRow w.heap.size 153 2 (.slice ao ws.length cap) ws.length (cellsW ws) ∧ (ws = [] → ao = none ∧ cap = 0)) := ⟨k1, fun e => by have := k4 e; simp only [Value.slice.injEq] at this; exact ⟨this.1, this.2.2⟩⟩
 have HG : Hid (LedNx X w1 B p u s ∧ FrX X B [102] w w1) := ⟨k2, k3⟩
 clear k1 k2 k3 k4 Hc
 go_wp2_with fail
 go_ret
 exact ⟨⟨_, _, rfl, HF.u⟩, HG.u⟩
def ownC (k : Nat) : List Value := [.int .i64 (77 + (k : Int)), .string markT]
def mkC (k j : Nat) (ws : List Wr) : List Value := (List.replicate j (ownC k)).flatten ++ (cellsW ws).drop (2 * j)
theorem flat_len2 (k j : Nat) : ((List.replicate j (ownC k)).flatten).length = 2 * j := by
 induction j with
 | zero => rfl
 | succ j ih => rw [List.replicate_succ, List.flatten_cons, List.length_append, ih]; show 2 + _ = _; omega
theorem mkC_set {k j : Nat} {ws : List Wr} (h : j < ws.length) : ((mkC k j ws).set (j * 2) (.int .i64 (77 + (k : Int)))).set (j * 2 + 1) (.string markT) = mkC k (j + 1) ws := by
 have hl := flat_len2 k j
 have hc := cellsW_length ws
 unfold mkC
 obtain ⟨a, b, r, hd⟩ : ∃ a b r, (cellsW ws).drop (2 * j) = a :: b :: r := by
  have h1 : 2 ≤ ((cellsW ws).drop (2 * j)).length := by rw [List.length_drop, hc]; omega
  match hq : (cellsW ws).drop (2 * j), h1 with
  | a :: b :: r, _ => exact ⟨a, b, r, rfl⟩
  | [], h1 => simp at h1
  | [_], h1 => simp at h1
 have hd2 : (cellsW ws).drop (2 * (j + 1)) = r := by
  have := congrArg (List.drop 2) hd
  rw [List.drop_drop] at this
  rw [show 2 * (j + 1) = 2 * j + 2 by omega, this]
  rfl
 rw [hd, hd2, List.set_append_right _ _ (by rw [hl]; omega), hl, show j * 2 - 2 * j = 0 by omega, List.set_cons_zero, List.set_append_right _ _ (by rw [hl]; omega), hl, show j * 2 + 1 - 2 * j = 1 by omega, List.set_cons_succ, List.set_cons_zero, List.replicate_succ', List.flatten_append]
 simp [ownC]
theorem mkC_all {k : Nat} {ws : List Wr} : mkC k ws.length ws = (List.replicate ws.length (ownC k)).flatten := by
 unfold mkC
 rw [List.drop_of_length_le (by rw [cellsW_length]; omega), List.append_nil]
theorem mkC_at {k n i : Nat} (h : i < n) : ((List.replicate n (ownC k)).flatten)[i * 2]? = some (.int .i64 (77 + (k : Int))) ∧ ((List.replicate n (ownC k)).flatten)[i * 2 + 1]? = some (.string markT) := by
 induction n generalizing i with
 | zero => omega
 | succ n ih =>
  rw [List.replicate_succ, List.flatten_cons]
  cases i with
  | zero => exact ⟨rfl, rfl⟩
  | succ i =>
   have := ih (i := i) (by omega)
   show ((ownC k) ++ _)[_]? = _ ∧ ((ownC k) ++ _)[_]? = _
   rw [List.getElem?_append_right (by show 2 ≤ _; omega), List.getElem?_append_right (by show 2 ≤ _; omega)]
   show _[(i + 1) * 2 - 2]? = _ ∧ _[(i + 1) * 2 + 1 - 2]? = _
   rw [show (i + 1) * 2 - 2 = i * 2 by omega, show (i + 1) * 2 + 1 - 2 = i * 2 + 1 by omega]
   exact this
theorem mark_of {w : World} {B : Nat} {ao : Option Addr} {n cap k : Nat} (h : w.ownsRow B 153 2 (.slice ao n cap) n ((List.replicate n (ownC k)).flatten)) (hn : n ≤ 1000) : MarkAt w (.slice ao n cap) k := by
 refine ⟨ao, n, cap, rfl, hn, ?_⟩
 by_cases h0 : n = 0
 ·exact .inl h0
 ·obtain ⟨g, _, e1, hg, hg'⟩ := oSome h (by omega)
  simp only [Value.slice.injEq, true_and] at e1
  obtain ⟨rfl, rfl⟩ := e1
  exact .inr ⟨g, rfl, hg', fun i hi => ⟨oCell h (mkC_at hi).1, oCell h (mkC_at hi).2⟩⟩
theorem blk_set_other {w : World} {b : Nat} {cs : Array Value} {T : TypeId} (h : Blk w b cs T) {a : Addr} (hne : b ≠ a.block) (v : Value) : Blk (w.setCell a v) b cs T := by
 unfold Blk at h ⊢
 rw [Below.heap_setCell _ _ _ _ (by exact hne)]; exact h
structure Wr3 (w wx : World) (B q p c : Nat) (vh vl : Value) (hs : List (Value × Nat)) (va vt : Value) (tv : List (Tn × Value)) (u : Nat) (vp vc vt2 : Value) (tv2 : List (Tn × Value)) (s : Bk) (n go t : Nat) (vL vh' vl' : Value) (nw : List (Value × Nat)) : Prop where
 row : wx.ownsRow w.heap.size 153 2 vL (n + t) ((List.replicate (n + t) (ownC hs.length)).flatten)
 own : Blk wx go #[.int .i64 (77 + (hs.length : Int)), .string markT] 153
 gog : w.heap.size ≤ go
 gone : ∀ k, vL.ownBlock = some k → k ≠ go
 blk : Blk wx q #[.pointer (some ⟨p, 0, none⟩), .pointer (some ⟨c, 0, none⟩), vh', vl'] 30
 heads : wx.ownsRow B 72 1 vh' (hs.length + t) ((hs ++ nw).map (·.1))
 lists : wx.ownsRow B 3 1 vl' (hs.length + t) ((hs ++ nw).map fun h => .int .i64 (h.2 : Int))
 nlen : nw.length = t
 new : ∀ h ∈ nw, h.2 = hs.length ∧ MarkAt wx h.1 hs.length ∧ (∀ k, h.1.ownBlock = some k → w.heap.size ≤ k ∧ k ≠ go ∧ Tg wx k 153) ∧ ∃ ao m cap, h.1 = .slice ao m cap ∧ m ≤ n + t
 hh : ∀ k, vh'.ownBlock = some k → vh.ownBlock = some k ∨ w.heap.size ≤ k
 ll : ∀ k, vl'.ownBlock = some k → vl.ownBlock = some k ∨ w.heap.size ≤ k
 frm : FrX (fun k => k < w.heap.size ∧ ¬ (k = q ∨ k = p ∨ vh.ownBlock = some k ∨ vl.ownBlock = some k)) B [102, 30, 72, 3, 153] w wx
 led : LedAt wx B p va vt tv ⟨u, .slice none 0 0, []⟩ s
 rfd : RefAt wx B c vp vc vt2 tv2 s
 sp : ∀ k, vp.ownBlock = some k → vl.ownBlock ≠ some k ∧ k < w.heap.size
section
variable {w wx w' : World} {B q p c : Nat} {vh vl : Value} {hs : List (Value × Nat)} {va vt : Value} {tv : List (Tn × Value)} {u : Nat} {vp vc vt2 : Value} {tv2 : List (Tn × Value)} {s : Bk} {n go t : Nat} {vL vh' vl' : Value} {nw : List (Value × Nat)}
def Wr3S (q : Nat) (vh' vl' vL : Value) (k : Nat) : Prop := k = q ∨ vh'.ownBlock = some k ∨ vl'.ownBlock = some k ∨ vL.ownBlock = some k
def ts4 : List TypeId := [30, 72, 3, 153]
theorem MarkAt.frx {X : Nat → Prop} {B' : Nat} {Ts : List TypeId} {v : Value} {k : Nat} (h : MarkAt wx v k) (hf : FrX X B' Ts wx w') (hx : ∀ g, v.ownBlock = some g → X g ∧ g < wx.heap.size) : MarkAt w' v k :=
 h.same hf.fr.size (fun g hg => hf.keep g (hx g hg).1 (hx g hg).2)
theorem Wr3.next (h : Wr3 w wx B q p c vh vl hs va vt tv u vp vc vt2 tv2 s n go t vL vh' vl' nw) (hw : w.heap.size ≤ wx.heap.size) {vL2 vh2 vl2 : Value} (f : FrX (fun k => ¬ Wr3S q vh' vl' vL k) B ts4 wx w') (hn1 : n + t ≤ 900)
  (hrow : w'.ownsRow w.heap.size 153 2 vL2 (n + t + 1) ((List.replicate (n + t) (ownC hs.length)).flatten ++ ownC hs.length))
  (hhd : w'.ownsRow B 72 1 vh2 (hs.length + t + 1) ((hs ++ nw).map (·.1) ++ [vL]))
  (hls : w'.ownsRow B 3 1 vl2 (hs.length + t + 1) ((hs ++ nw).map (fun h => .int .i64 (h.2 : Int)) ++ [.int .i64 (hs.length : Int)]))
  (hblk : Blk w' q #[.pointer (some ⟨p, 0, none⟩), .pointer (some ⟨c, 0, none⟩), vh2, vl2] 30)
  (a1 : vh2.ownBlock = vh'.ownBlock ∨ ∀ k, vh2.ownBlock = some k → wx.heap.size ≤ k) (a2 : vl2.ownBlock = vl'.ownBlock ∨ ∀ k, vl2.ownBlock = some k → wx.heap.size ≤ k)
  (a3 : (vL2.ownBlock = vL.ownBlock) ∨ ((∀ k, vL2.ownBlock = some k → wx.heap.size ≤ k) ∧ ∀ k, vL.ownBlock = some k → w'.heap[k]? = wx.heap[k]?)) :
  Wr3 w w' B q p c vh vl hs va vt tv u vp vc vt2 tv2 s n go (t + 1) vL2 vh2 vl2 (nw ++ [(vL, hs.length)]) := by
 have hql := h.blk.lt
 have lo := fun k hk => own_lt' h.row k hk
 have ns : ∀ {T : TypeId} (k : Nat), Tg wx k T → T ≠ 30 → T ≠ 72 → (T = 3 → vl'.ownBlock ≠ some k) → (T = 153 → vL.ownBlock ≠ some k) → ¬ Wr3S q vh' vl' vL k := by
  intro T k ht n1 n2 n3 n4
  rintro (rfl | hk | hk | hk)
  ·exact n1 (ty_ne ht h.blk.tg)
  ·exact n2 (ty_ne ht (oTg h.heads k hk).2)
  ·exact n3 (ty_ne ht (oTg h.lists k hk).2) hk
  ·exact n4 (ty_ne ht (oTg h.row k hk).2) hk
 have A : ∀ {P : Prop} {T U : TypeId}, T ≠ U → T = U → P := fun h e => absurd e h
 have row1 : (List.replicate (n + (t + 1)) (ownC hs.length)).flatten = (List.replicate (n + t) (ownC hs.length)).flatten ++ ownC hs.length := by
  rw [← Nat.add_assoc, List.replicate_succ', List.flatten_append]; simp
 have newL : ∀ k, vL.ownBlock = some k → w.heap.size ≤ k ∧ k ≠ go ∧ Tg w' k 153 := by
  intro k hk
  refine ⟨(lo k hk).1, h.gone k hk, ?_⟩
  rcases a3 with e | ⟨_, e⟩
  ·exact (oTg hrow k (by rw [e]; exact hk)).2
  ·obtain ⟨cs, fz, hg⟩ := (oTg h.row k hk).2
   exact ⟨cs, fz, by rw [e k hk]; exact hg⟩
 obtain ⟨aL, cL, hvL⟩ := oForm h.row
 have markL : ∀ (ao : Option Addr) (m cap : Nat), m ≤ n + t → MarkAt wx (.slice ao m cap) hs.length → (∀ k, (Value.slice ao m cap).ownBlock = some k → vL.ownBlock = some k) → MarkAt w' (.slice ao m cap) hs.length := by
  intro ao m cap hm hmk hown
  rcases a3 with e | ⟨_, e⟩
  ·obtain ⟨ao', m', cap', e1, hm', hr⟩ := hmk
   simp only [Value.slice.injEq] at e1
   obtain ⟨rfl, rfl, rfl⟩ := e1
   refine ⟨ao, m, cap, rfl, hm', ?_⟩
   rcases hr with hr | ⟨g, rfl, hlt, hc⟩
   ·exact .inl hr
   ·refine .inr ⟨g, rfl, Nat.lt_of_lt_of_le hlt f.fr.size, fun i hi => ?_⟩
    have hg2 : vL2.ownBlock = some g := by rw [e]; exact hown g rfl
    have hc2 := hrow.cells hg2
    rw [← row1] at hc2
    have h1 := hc2 (i * 2) _ (mkC_at (by omega)).1
    have h2 := hc2 (i * 2 + 1) _ (mkC_at (by omega)).2
    rw [Addr.add_lit] at h1 h2
    simp only [Nat.zero_add] at h1 h2
    exact ⟨h1, h2⟩
  ·exact hmk.same f.fr.size (fun g hg => e g (hown g hg))
 refine ⟨?_, ?_, h.gog, ?_, hblk, ?_, ?_, by simp [h.nlen], ?_, ?_, ?_, ?_, ?_, ?_, h.sp⟩
 ·rw [row1, ← Nat.add_assoc]; exact hrow
 ·have hlt := h.own.lt
  have hb := h.own
  have hk := f.keep go (ns go h.own.tg (by decide) (by decide) (A (by decide)) (fun _ e => h.gone go e rfl)) hlt
  unfold Blk at hb ⊢
  rw [hk]; exact hb
 ·intro k hk e
  subst e
  rcases a3 with e | ⟨e, _⟩
  ·exact h.gone k (by rw [← e]; exact hk) rfl
  ·have := e k hk; have := h.own.lt; omega
 ·rw [← Nat.add_assoc, ← List.append_assoc, List.map_append]; exact hhd
 ·rw [← Nat.add_assoc, ← List.append_assoc, List.map_append]; exact hls
 ·intro x hx
  rw [List.mem_append, List.mem_singleton] at hx
  rcases hx with hx | rfl
  ·obtain ⟨i1, i2, i3, ao, m, cap, i4, i5⟩ := h.new x hx
   obtain ⟨v, k0⟩ := x
   simp only at i1 i2 i3 i4 ⊢
   subst i4
   refine ⟨i1, ?_, ?_, ao, m, cap, rfl, by omega⟩
   ·by_cases hsame : ∀ k, (Value.slice ao m cap).ownBlock = some k → vL.ownBlock = some k
    ·exact markL ao m cap i5 i2 hsame
    ·refine i2.frx f (fun g hg => ⟨ns g (i3 g hg).2.2 (by decide) (by decide) (A (by decide)) (fun _ e => hsame (fun k hk => ?_)), ?_⟩)
     ·rw [hg] at hk; simp only [Option.some.injEq] at hk; subst hk; exact e
     ·obtain ⟨cs, fz, hgg⟩ := (i3 g hg).2.2; exact (Array.getElem?_eq_some_iff.1 hgg).1
   ·intro k hk
    refine ⟨(i3 k hk).1, (i3 k hk).2.1, ?_⟩
    by_cases hs' : vL.ownBlock = some k
    ·exact (newL k hs').2.2
    ·exact tg_keep f (ns k (i3 k hk).2.2 (by decide) (by decide) (A (by decide)) (fun _ => hs')) (i3 k hk).2.2
  ·refine ⟨rfl, ?_, newL, aL, n + t, cL, hvL, by omega⟩
   simp only
   rw [hvL]
   have hr0 := h.row
   rw [hvL] at hr0
   exact markL aL (n + t) cL (Nat.le_refl _) (mark_of hr0 (by omega)) (fun k hk => by rw [hvL]; exact hk)
 ·intro k hk
  rcases a1 with e | e
  ·exact h.hh k (by rw [← e]; exact hk)
  ·right; have := e k hk; omega
 ·intro k hk
  rcases a2 with e | e
  ·exact h.ll k (by rw [← e]; exact hk)
  ·right; have := e k hk; omega
 ·refine h.frm.trans ⟨f.fr.mono (by simp [ts4]), fun k hk hl => f.keep k ?_ hl⟩
  rintro (rfl | e | e | e)
  ·exact hk.2 (.inl rfl)
  ·rcases h.hh k e with h1 | h1
   ·exact hk.2 (.inr (.inr (.inl h1)))
   ·omega
  ·rcases h.ll k e with h1 | h1
   ·exact hk.2 (.inr (.inr (.inr h1)))
   ·omega
  ·have := (lo k e).1; omega
 ·have g1 : FrX (fun k => ¬ Wr3S q vh' vl' vL k) B (tP ++ ts4) wx w' := f.mono (by intro T hT; simp [hT])
  have own : ∀ {e : TypeId} {size : Nat} {v : Value} {m : Nat} {xs : List Value}, wx.ownsRow B e size v m xs → (∀ k, v.ownBlock = some k → ¬ Wr3S q vh' vl' vL k) → w'.ownsRow B e size v m xs := fun ho hd => own_kept f ho hd
  refine ⟨?_, h.led.lo, own h.led.acs (fun k hk => ns k (oTg h.led.acs k hk).2 (by decide) (by decide) (A (by decide)) (A (by decide))), ⟨own h.led.txs.own (fun k hk => ns k (oTg h.led.txs.own k hk).2 (by decide) (by decide) (A (by decide)) (A (by decide))), fun x hm => oFrT (h.led.txs.lns x hm) f.fr (by decide)⟩, h.led.jr, h.led.good, World.ownsRow_nil _ _ _ _, h.led.dlen, h.led.dcnt⟩
  have hlt := h.led.blk.lt
  have hb := h.led.blk
  have hk := f.keep p (ns p h.led.blk.tg (by decide) (by decide) (A (by decide)) (A (by decide))) hlt
  unfold Blk at hb ⊢
  rw [hk]; exact hb
 ·refine h.rfd.keptF f (by decide) (ns c h.rfd.blk.tg (by decide) (by decide) (A (by decide)) (A (by decide))) (fun k hk => ns k (oTg h.rfd.par k hk).2 (by decide) (by decide) (fun _ e => ?_) (A (by decide))) (fun k hk => ns k (oTg h.rfd.clo k hk).2 (by decide) (by decide) (A (by decide)) (A (by decide))) (fun k hk => ns k (oTg h.rfd.txs.own k hk).2 (by decide) (by decide) (A (by decide)) (A (by decide)))
  rcases h.ll k e with h1 | h1
  ·exact (h.sp k hk).1 h1
  ·have := (h.sp k hk).2; omega
end
theorem info_wl : (Tryz.prog.info? 72).map (fun i => (i.zero, i.size, i.bytes)) = some (some (.slice none 0 0), 1, 24) := by kernel_rfl
theorem tg_set {w : World} {k : Nat} {T : TypeId} {a : Addr} {v : Value} (h : Tg w k T) : Tg (w.setCell a v) k T := by
 obtain ⟨cs, fz, hg⟩ := h
 by_cases e : k = a.block
 ·subst e
  exact ⟨_, _, by simp [World.setCell, Array.getElem?_modify, hg]; exact ⟨rfl, rfl⟩⟩
 ·exact ⟨cs, fz, by rw [Below.heap_setCell _ _ _ _ e]; exact hg⟩
theorem fld_step {w wa : World} {B q : Nat} {cs : Array Value} {T : TypeId} {v v2 : Value} {n n2 : Nat} {xs xs2 : List Value} (i : Nat) (hT : 30 ≠ T) (hB : B ≤ q) (hblk : Blk w q cs 30) (hrow : w.ownsRow B T 1 v n xs) (o : Obj) (hgr : (w.alloc o).grownBy wa v.ownBlock) (hown : wa.ownsRow B T 1 v2 n2 xs2) :
  Blk wa q cs 30 ∧ Blk (wa.setCell ⟨q, i, none⟩ v2) q (cs.setIfInBounds i v2) 30 ∧ (wa.setCell ⟨q, i, none⟩ v2).ownsRow B T 1 v2 n2 xs2 ∧ FrX (fun k => ¬ (k = q ∨ v.ownBlock = some k)) B [30, T] w (wa.setCell ⟨q, i, none⟩ v2) := by
 have hb1 : Blk wa q cs 30 := (hblk.alloc o).grown hgr (blk_own_ne hblk hrow hT)
 refine ⟨hb1, hb1.set i v2, oFrT hown ((FrT.refl B [30] wa).setCell (p := ⟨q, i, none⟩) (T := 30) (by simp) hb1.tg hB v2) (by simp; exact fun e => hT e.symm), ?_⟩
 refine (FrX.grown (T := T) ((FrX.refl B _ w).alloc o) hgr (by simp) (fun k hk => ?_) (fun k hk h => h (.inr hk))).setCell (T := 30) (by simp) hb1.tg hB (fun h => h (.inl rfl)) v2
 obtain ⟨h1, cs', fz, hg⟩ := oTg hrow k hk
 refine ⟨h1, cs', fz, ?_⟩
 rw [Below.heap_alloc _ _ _ (Array.getElem?_eq_some_iff.1 hg).1]; exact hg
section
variable {w wx wb wd we : World} {B q p c : Nat} {vh vl : Value} {hs : List (Value × Nat)} {va vt : Value} {tv : List (Tn × Value)} {u : Nat} {vp vc vt2 : Value} {tv2 : List (Tn × Value)} {s : Bk} {n go t : Nat} {vL vh' vl' : Value} {nw : List (Value × Nat)}
theorem Wr3.mid1 (h : Wr3 w wx B q p c vh vl hs va vt tv u vp vc vt2 tv2 s n go t vL vh' vl' nw) (f1 : FrX (fun k => ¬ (k = q ∨ vh'.ownBlock = some k)) B [30, 72] wx wb) :
  wb.ownsRow B 3 1 vl' (hs.length + t) ((hs ++ nw).map fun h => .int .i64 (h.2 : Int)) ∧ wb.ownsRow w.heap.size 153 2 vL (n + t) ((List.replicate (n + t) (ownC hs.length)).flatten) ∧ Blk wb go #[.int .i64 (77 + (hs.length : Int)), .string markT] 153 :=
 ⟨oFrT h.lists f1.fr (by decide), oFrT h.row f1.fr (by decide), h.own.frT f1.fr (by decide)⟩
theorem Wr3.mid2 (h : Wr3 w wx B q p c vh vl hs va vt tv u vp vc vt2 tv2 s n go t vL vh' vl' nw) (f1 : FrX (fun k => ¬ (k = q ∨ vh'.ownBlock = some k)) B [30, 72] wx wb) (f2 : FrX (fun k => ¬ (k = q ∨ vl'.ownBlock = some k)) B [30, 3] wb wd) :
  wd.ownsRow w.heap.size 153 2 vL (n + t) ((List.replicate (n + t) (ownC hs.length)).flatten) ∧ Blk wd go #[.int .i64 (77 + (hs.length : Int)), .string markT] 153 :=
 ⟨oFrT (h.mid1 f1).2.1 f2.fr (by decide), (h.mid1 f1).2.2.frT f2.fr (by decide)⟩
theorem Wr3.round (h : Wr3 w wx B q p c vh vl hs va vt tv u vp vc vt2 tv2 s n go t vL vh' vl' nw) (hBw : B ≤ w.heap.size) (hw : w.heap.size ≤ wx.heap.size) (hn1 : n + t ≤ 900) {vL2 vh2 vl2 : Value} {o : Obj} {n1 n2 : Nat}
  (f1 : FrX (fun k => ¬ (k = q ∨ vh'.ownBlock = some k)) B [30, 72] wx wb)
  (b1 : wb.ownsRow B 72 1 vh2 (hs.length + t + 1) ((hs ++ nw).map (·.1) ++ [vL]))
  (f2 : FrX (fun k => ¬ (k = q ∨ vl'.ownBlock = some k)) B [30, 3] wb wd)
  (b2 : wd.ownsRow B 3 1 vl2 (hs.length + t + 1) ((hs ++ nw).map (fun h => .int .i64 (h.2 : Int)) ++ [.int .i64 (hs.length : Int)]))
  (q2 : Blk wd q #[.pointer (some ⟨p, 0, none⟩), .pointer (some ⟨c, 0, none⟩), vh2, vl2] 30)
  (a1 : vh2.ownBlock = vh'.ownBlock ∨ vh2.ownBlock = some n1) (an1 : wx.heap.size ≤ n1) (a2 : vl2.ownBlock = vl'.ownBlock ∨ vl2.ownBlock = some n2) (an2 : wb.heap.size ≤ n2)
  (r : we.ownsRow w.heap.size 153 2 vL2 (n + t + 1) ((List.replicate (n + t) (ownC hs.length)).flatten ++ ownC hs.length))
  (g : (vL2.ownBlock = vL.ownBlock ∧ (wd.alloc o).grownBy we vL.ownBlock) ∨ (vL2.ownBlock = some (wd.alloc o).heap.size ∧ (wd.alloc o).grownBy we none)) :
  Wr3 w we B q p c vh vl hs va vt tv u vp vc vt2 tv2 s n go (t + 1) vL2 vh2 vl2 (nw ++ [(vL, hs.length)]) := by
 have hrow3 := (h.mid2 f1 f2).1
 have s1 := f1.fr.size
 have s2 := f2.fr.size
 have tgr : ∀ k, vL.ownBlock = some k → B ≤ k ∧ Tg (wd.alloc o) k 153 := by
  intro k hk
  obtain ⟨h1, cs', fz, hg⟩ := oTg hrow3 k hk
  refine ⟨by omega, cs', fz, ?_⟩
  rw [Below.heap_alloc _ _ _ (Array.getElem?_eq_some_iff.1 hg).1]; exact hg
 have f3 : FrX (fun k => ¬ (vL.ownBlock = some k)) B [153] wd we := by
  rcases g with ⟨_, g⟩ | ⟨_, g⟩
  ·exact ((FrX.refl B _ wd).alloc o).grown g (by simp) tgr (fun k hk h => h hk)
  ·exact ((FrX.refl B _ wd).alloc o).grown (T := 153) g (by simp) (fun k hk => by simp at hk) (fun k hk h => by simp at hk)
 have f : FrX (fun k => ¬ Wr3S q vh' vl' vL k) B ts4 wx we := by
  exact ((FrX.sub (f1.mono (Us := ts4) (by simp [ts4])) (fun k hk e => hk (e.elim .inl (fun e => .inr (.inl e))))).trans (FrX.sub (f2.mono (Us := ts4) (by simp [ts4])) (fun k hk e => hk (e.elim .inl (fun e => .inr (.inr (.inl e))))))).trans (FrX.sub (f3.mono (Us := ts4) (by simp [ts4])) (fun k hk e => hk (.inr (.inr (.inr e)))))
 refine h.next hw f hn1 r (oFrT (oFrT b1 f2.fr (by decide)) f3.fr (by decide)) (oFrT b2 f3.fr (by decide)) (q2.frT f3.fr (by decide)) ?_ ?_ ?_
 ·rcases a1 with e | e
  ·exact .inl e
  ·right; intro k hk; rw [e] at hk; simp only [Option.some.injEq] at hk; omega
 ·rcases a2 with e | e
  ·exact .inl e
  ·right; intro k hk; rw [e] at hk; simp only [Option.some.injEq] at hk; omega
 ·rcases g with ⟨e, _⟩ | ⟨e, g⟩
  ·exact .inl e
  ·refine .inr ⟨fun k hk => ?_, fun k hk => ?_⟩
   ·rw [e] at hk; simp at hk; omega
   ·have t0 := own_lt' h.row k hk
    have i0 := (oTg h.row k hk).2
    have i1 := (oTg (h.mid1 f1).2.1 k hk).2
    have j1 := f1.keep k (by
     rintro (rfl | e)
     ·exact absurd (ty_ne i0 h.blk.tg) (by decide)
     ·exact absurd (ty_ne i0 (oTg h.heads k e).2) (by decide)) t0.2
    have j2 := f2.keep k (by
     rintro (rfl | e)
     ·exact absurd (ty_ne (oTg hrow3 k hk).2 q2.tg) (by decide)
     ·exact absurd (ty_ne i1 (oTg (h.mid1 f1).1 k e).2) (by decide)) (by omega)
    rw [g.block k (by simp; omega) (by simp), Below.heap_alloc _ _ _ (by omega), j2, j1]
end
theorem PairD.wider {D D' : Nat → Prop} {w : World} {B q : Nat} {s : Bk} {n : Nat} (h : PairD D w B q s n) (hd : ∀ k, D k → D' k) (ht : ∀ k, D' k → k < w.heap.size) : PairD D' w B q s n := by
 obtain ⟨p, c, vh, vl, va, vt, tv, d, vp, vc, vt2, tv2, hs, h, hn⟩ := h
 exact ⟨p, c, vh, vl, va, vt, tv, d, vp, vc, vt2, tv2, hs, ⟨h.blk, h.led, h.prw, h.rfd, h.hds, fun k hk => hd k (h.dh k hk), hd _ h.dp, fun k hk => hd k (h.da k hk), fun k hk => hd k (h.dt k hk), fun k hk => hd k (h.dw k hk), hd _ h.dc, fun k hk => hd k (h.dvp k hk), fun k hk => hd k (h.dvc k hk), fun k hk => hd k (h.dvt k hk), h.sw, h.sp, h.tg, ht, h.few, h.qlo⟩, hn⟩
def NotOwn (w : World) (p : Nat) (va vt vw : Value) (k : Nat) : Prop := k < w.heap.size ∧ ¬ (k = p ∨ va.ownBlock = some k ∨ vt.ownBlock = some k ∨ vw.ownBlock = some k)
theorem written_any (D : Nat → Prop) (w : World) (B q p c : Nat) (vh vl va vt : Value) (tv : List (Tn × Value)) (d : Dk) (vp vc vt2 : Value) (tv2 : List (Tn × Value)) (hs : List (Value × Nat)) (s : Bk) (h : PairIn D w B q p c vh vl va vt tv d vp vc vt2 tv2 hs s) (hfew : hs.length ≤ 7999999999990) :
  Calls Tryz.prog 85 #[.pointer (some ⟨q, 0, none⟩)] w fun e w' => e = .returned (.bool true) ∧ Stepd D w w' B q s (hs.length + 4) := by
 obtain ⟨iw, hiw, hw0, hw1, hw2⟩ := info_parts info_write
 obtain ⟨il, hil, hl0, hl1, hl2⟩ := info_parts info_wl
 obtain ⟨ii, hii, hz0, hz1, hz2⟩ := info_parts infoInt
 obtain ⟨u, vw, ws⟩ := d
 have hdl := h.led.dlen
 have hdc := h.led.dcnt
 have hbd := cnt_bound h.led.good
 have hpw := h.prw
 simp only at hdl hdc hpw
 have hla : LedAx (NotOwn w p va vt vw) w B p va vt tv ⟨u, vw, ws⟩ s := ⟨h.led, fun k => k.2 (.inl rfl), fun k hk x => x.2 (.inr (.inl hk)), fun k hk x => x.2 (.inr (.inr (.inl hk))), fun k hk x => x.2 (.inr (.inr (.inr hk))), fun k hk => hk.1⟩
 have Hwr := hI (dayWritesX_any (NotOwn w p va vt vw) B p u ws s w ⟨va, vt, tv, vw, hla⟩)
 obtain ⟨m, hm⟩ : ∃ m, ws.length = m := ⟨_, rfl⟩
 rw [hm] at Hwr hdl
 have hm2 : m ≤ 200 := by omega
 have HM := hI hm
 have Hpw := hI hpw
 obtain ⟨al0, cl0, rfl⟩ := oForm h.hds.lists
 obtain ⟨ah0, ch0, rfl⟩ := oForm h.hds.heads
 have hBw : B ≤ w.heap.size := by have h1 := h.led.lo; have h2 := h.led.blk.lt; omega
 have c0 := h.blk.cell 0
 simp only [List.getElem?_toArray, List.getElem?_cons_zero] at c0
 have H := hI h
 clear h hla hpw hdl hdc hbd hm
 go_enter Tryz.func85, Tryz.ntmps85
 go_wp2_with fail
 refine Hwr.u.mono ?_
 rintro e w1 ⟨⟨al, cl, rfl, k1, _⟩, k2, k3⟩
 have HO1 := hI k1
 have HL1 := hI k2
 have HF1 := hI k3
 have hs1 : w.heap.size ≤ w1.heap.size := k3.fr.size
 have HQ1 := hI (H.u.blk.frT k3.fr (by decide))
 clear k1 k2 k3 Hwr c0
 go_wp2_with fail
 go_loopg [4] m (fun x vi wr => ∃ j : Nat, j ≤ m ∧ x = m - j ∧ vi = .int .i64 j ∧ Hid (Below w1.heap.size w1 wr))
 case atStart => exact ⟨0, by omega, rfl, rfl, Below.refl _ _⟩
 case round =>
  obtain ⟨j, hj, rfl, rfl, Hb⟩ := hrel
  have hsz := Hb.u.size
  by_cases hlt : j < m
  ·obtain ⟨⟨x1, x2⟩, hx⟩ : ∃ x, ws[j]? = some x := ⟨ws[j]'(by rw [HM.u]; exact hlt), List.getElem?_eq_getElem _⟩
   have hro := oBelow HO1.u Hb.u
   obtain ⟨g, _, e1, hg, hg'⟩ := oSome hro (by omega)
   simp only [Value.slice.injEq, true_and] at e1
   obtain ⟨rfl, rfl⟩ := e1
   have h2 := two_get (fun a : Wr => Value.int .i64 a.1) (fun a => .string a.2) ws j _ hx
   have d1 := oCell hro (j := j * 2) h2.1
   have d2 := oCell hro (j := j * 2 + 1) h2.2
   have hor := Hpw.u _ (List.mem_of_getElem? hx)
   simp only at d1 d2 hor
   clear hro h2 hx
   rcases hor with ⟨rfl, rfl⟩ | ⟨o1, o2, o3⟩
   ·go_wp2_with fail
    go_roundg (m - (j + 1))
    case measure => omega
    case rel => exact ⟨j + 1, by omega, rfl, by go_num, by first | exact Hb.u.alloc hsz _ | exact (((Hb.u.alloc hsz _).setCell hsz _).setCell hsz _)⟩
   ·have n1 : (x1 == -1) = false := by rw [beq_eq_false_iff_ne]; omega
    have n2 : ((x2.size : Int) == 64) = true := by rw [o3]; rfl
    go_wp2_with fail
    go_roundg (m - (j + 1))
    case measure => omega
    case rel => exact ⟨j + 1, by omega, rfl, by go_num, by first | exact Hb.u.alloc hsz _ | exact (((Hb.u.alloc hsz _).setCell hsz _).setCell hsz _)⟩
  ·obtain rfl : j = m := by omega
   have c3 := (HQ1.u.kept Hb.u).cell 3
   simp only [List.getElem?_toArray, List.getElem?_cons_zero, List.getElem?_cons_succ] at c3
   have ho2 := oBelow HO1.u Hb.u
   go_wp2_with fail
   obtain ⟨go, hgo⟩ : ∃ go, wr.heap.size = go := ⟨_, rfl⟩
   obtain ⟨W2, hW2⟩ : ∃ W2, wr.alloc (Obj.cells #[.int .i64 (77 + (hs.length : Int)), .string ⟨#[109, 97, 114, 107]⟩] 153) = W2 := ⟨_, rfl⟩
   have hal : Below wr.heap.size wr W2 := by rw [← hW2]; exact (Below.refl _ _).alloc (Nat.le_refl _) _
   have HG2 : Hid (Blk W2 go #[.int .i64 (77 + (hs.length : Int)), .string markT] 153) := by rw [← hW2, ← hgo]; exact Blk.new _ _ _
   have hb2 : Below w1.heap.size w1 W2 := Hb.u.then' hsz hal
   have HB2 : Hid (FrX (fun k => (Value.slice al j cl).ownBlock ≠ some k) w.heap.size [153] w1 W2) := FrX.of_below hb2
   have HR2 : Hid (W2.ownsRow w.heap.size 153 2 (.slice al j cl) j (mkC hs.length 0 ws)) := by
    have : mkC hs.length 0 ws = cellsW ws := rfl
    show World.ownsRow _ _ _ _ _ _ _
    rw [this]
    exact oBelow ho2 hal
   have hgb : ∀ k, (Value.slice al j cl).ownBlock = some k → w.heap.size ≤ k ∧ k < go := fun k hk => by rw [← hgo]; exact own_lt' ho2 k hk
   have Hgb := hI hgb
   have hgo1 : w.heap.size ≤ go := by omega
   rw [hW2, hgo]
   clear hW2 hgo hal hb2 ho2 hgb c3
   go_loopg [10] j (fun x vi wx => ∃ i : Nat, i ≤ j ∧ x = j - i ∧ vi = .int .i64 i ∧ Hid (wx.ownsRow w.heap.size 153 2 (.slice al j cl) j (mkC hs.length i ws)) ∧ Hid (Blk wx go #[.int .i64 (77 + (hs.length : Int)), .string markT] 153) ∧ Hid (FrX (fun k => (Value.slice al j cl).ownBlock ≠ some k) w.heap.size [153] w1 wx))
   case atStart => exact ⟨0, by omega, rfl, rfl, HR2.u, HG2.u, HB2.u⟩
   case round =>
    obtain ⟨i, hi, rfl, rfl, HR, HG, HB⟩ := hrel
    by_cases hlt2 : i < j
    ·obtain ⟨g, _, e1, hg, hg'⟩ := oSome HR.u (by omega)
     simp only [Value.slice.injEq, true_and] at e1
     obtain ⟨rfl, rfl⟩ := e1
     have hml : (mkC hs.length i ws).length = j * 2 := HR.u.1
     obtain ⟨y1, hy1⟩ : ∃ y, (mkC hs.length i ws)[i * 2]? = some y := ⟨(mkC hs.length i ws)[i * 2]'(by omega), List.getElem?_eq_getElem _⟩
     obtain ⟨y2, hy2⟩ : ∃ y, (mkC hs.length i ws)[i * 2 + 1]? = some y := ⟨(mkC hs.length i ws)[i * 2 + 1]'(by omega), List.getElem?_eq_getElem _⟩
     have d1 := oCell HR.u hy1
     have d2 := oCell HR.u hy2
     have z1 := oFrozen HR.u (i * 2)
     have z2 := oFrozen HR.u (i * 2 + 1)
     have o0 := HG.u.cell 0
     have o1 := HG.u.cell 1
     have lg := HG.u.lt
     simp only [List.getElem?_toArray, List.getElem?_cons_zero, List.getElem?_cons_succ] at o0 o1
     have hgg := Hgb.u g rfl
     have hne : g ≠ go := by omega
     clear hy1 hy2 hml
     go_wp2_with fail
     go_roundg (j - (i + 1))
     case measure => omega
     case rel =>
      refine ⟨i + 1, by omega, rfl, by go_num, ?_, ?_, ?_⟩
      ·have h1 := own_set (i := i * 2 + 1) (own_set (i := i * 2) HR.u (.int .i64 (77 + (hs.length : Int)))) (.string markT)
       rw [mkC_set (by rw [HM.u]; exact hlt2)] at h1
       exact h1
      ·exact blk_set_other (blk_set_other HG.u (by exact fun e => hne e.symm) _) (by exact fun e => hne e.symm) _
      ·have ht := (oTg HR.u g rfl).2
       exact (HB.u.setCell (p := ⟨g, i * 2, none⟩) (by simp) ht hgg.1 (fun h => h rfl) _).setCell (p := ⟨g, i * 2 + 1, none⟩) (by simp) (tg_set ht) hgg.1 (fun h => h rfl) _
    ·obtain rfl : i = j := by omega
     have hrow := HR.u
     rw [show mkC hs.length i ws = (List.replicate i (ownC hs.length)).flatten by rw [← HM.u]; exact mkC_all] at hrow
     obtain ⟨va1, vt1, tv1, hl1⟩ := HL1.u
     have hB1 := HB.u
     have hsw : w.heap.size ≤ wr.heap.size := Nat.le_trans hs1 hB1.fr.size
     have hf1 := HF1.u
     have hh := H.u
     have hvl : ∀ k, (Value.slice al i cl).ownBlock = some k → w.heap.size ≤ k := fun k hk => (Hgb.u k hk).1
     have hall : ∀ k, k < w.heap.size → k ≠ p → wr.heap[k]? = w.heap[k]? := by
      intro k hk hkp
      have e1 : wr.heap[k]? = w1.heap[k]? := hB1.keep k (fun e => by have := hvl k e; omega) (by omega)
      rw [e1]
      by_cases hown : va.ownBlock = some k ∨ vt.ownBlock = some k ∨ vw.ownBlock = some k
      ·refine hf1.fr.block k hk (fun _ T hT ht => ?_)
       simp only [List.mem_singleton] at hT
       subst hT
       rcases hown with e | e | e
       ·exact absurd (ty_ne ht (oTg hh.led.acs k e).2) (by decide)
       ·exact absurd (ty_ne ht (oTg hh.led.txs.own k e).2) (by decide)
       ·exact absurd (ty_ne ht (oTg hh.led.dsk k e).2) (by decide)
      ·exact hf1.keep k ⟨hk, fun e => e.elim hkp hown⟩ hk
     have fA : FrX (fun k => k < w.heap.size ∧ k ≠ p) B [102] w wr := by
      refine ⟨⟨hB1.fr.os.trans hf1.fr.os, hB1.fr.tape.trans hf1.fr.tape, hB1.fr.output.trans hf1.fr.output, hsw, fun k hk hx => ?_⟩, fun k hk hl => hall k hk.1 hk.2⟩
      have e1 : wr.heap[k]? = w1.heap[k]? := hB1.keep k (fun e => by have := hvl k e; omega) (by omega)
      rw [e1]
      exact hf1.fr.block k hk hx
     have np : ∀ {T : TypeId} (k : Nat), Tg w k T → T ≠ 102 → k < w.heap.size ∧ k ≠ p := by
      intro T k ht hT
      refine ⟨?_, fun e => ?_⟩
      ·obtain ⟨cs, fz, hg⟩ := ht; exact (Array.getElem?_eq_some_iff.1 hg).1
      ·subst e; exact hT (ty_ne ht hh.led.blk.tg)
     have hw3 : Wr3 w wr B q p c (.slice ah0 hs.length ch0) (.slice al0 hs.length cl0) hs va1 vt1 tv1 u vp vc vt2 tv2 s i go 0 (.slice al i cl) (.slice ah0 hs.length ch0) (.slice al0 hs.length cl0) [] := by
      have ns : ∀ {T : TypeId} (k : Nat), Tg w1 k T → T ≠ 153 → (Value.slice al i cl).ownBlock ≠ some k := fun k ht hT e => hT (ty_ne ht (oTg HO1.u k e).2)
      refine ⟨hrow, HG.u, hgo1, fun k hk => by have := (Hgb.u k hk).2; omega, ?_, ?_, ?_, rfl, by simp, fun k hk => .inl hk, fun k hk => .inl hk, ⟨fA.fr.mono (by simp), fun k hk hl => hall k hk.1 (fun e => hk.2 (.inr (.inl e)))⟩, ?_, ?_, fun k hk => ⟨hh.sp k hk, (own_lt' hh.rfd.par k hk).2⟩⟩
      ·have hb := hh.blk
       have hk := hall q hb.lt (np q hb.tg (by decide)).2
       unfold Blk at hb ⊢
       rw [hk]; exact hb
      ·have := own_kept fA hh.hds.heads (fun k hk => np k (oTg hh.hds.heads k hk).2 (by decide))
       simpa using this
      ·have := own_kept fA hh.hds.lists (fun k hk => np k (oTg hh.hds.lists k hk).2 (by decide))
       simpa using this
      ·exact hl1.toLedAt.keptF (hB1.mono (by simp [tP])) (ns p hl1.blk.tg (by decide)) (fun k hk => ns k (oTg hl1.acs k hk).2 (by decide)) (fun k hk => ns k (oTg hl1.txs.own k hk).2 (by decide)) (fun k hk => by simp [Value.ownBlock] at hk)
      ·exact hh.rfd.keptF fA (by decide) (np c hh.rfd.blk.tg (by decide)) (fun k hk => np k (oTg hh.rfd.par k hk).2 (by decide)) (fun k hk => np k (oTg hh.rfd.clo k hk).2 (by decide)) (fun k hk => np k (oTg hh.rfd.txs.own k hk).2 (by decide))
     have hD1 : (∀ k, va1.ownBlock = some k → D k ∨ w.heap.size ≤ k) ∧ ∀ k, vt1.ownBlock = some k → D k ∨ w.heap.size ≤ k := by
      have key : ∀ k, ¬ NotOwn w p va vt vw k → D k ∨ w.heap.size ≤ k := by
       intro k hk
       by_cases hw : w.heap.size ≤ k
       ·exact .inr hw
       ·left
        apply Classical.byContradiction
        intro hd
        refine hk ⟨by omega, ?_⟩
        rintro (rfl | e | e | e)
        ·exact hd hh.dp
        ·exact hd (hh.da k e)
        ·exact hd (hh.dt k e)
        ·exact hd (hh.dw k e)
      exact ⟨fun k hk => key k (hl1.xa k hk), fun k hk => key k (hl1.xt k hk)⟩
     have HD1 := hI hD1
     have HW3 := hI hw3
     clear hrow HR hl1 hf1 hw3 hB1 hh hvl hall fA np hD1
     go_wp2_with fail
     go_loopg [3, 11] 4 (fun x vL vi wx => ∃ (t : Nat) (vh' vl' : Value) (nw : List (Value × Nat)), t ≤ 4 ∧ x = 4 - t ∧ vi = .int .i64 t ∧ w.heap.size ≤ wx.heap.size ∧ Hid (Wr3 w wx B q p c (.slice ah0 hs.length ch0) (.slice al0 hs.length cl0) hs va1 vt1 tv1 u vp vc vt2 tv2 s i go t vL vh' vl' nw))
     case atStart => exact ⟨0, _, _, [], by omega, rfl, rfl, hsw, HW3.u⟩
     case round =>
      obtain ⟨t, vh', vl', nw, ht, rfl, rfl, hwx, HW⟩ := hrel
      by_cases hlt3 : t < 4
      ·have hW := HW.u
       obtain ⟨aL, cL, rfl⟩ := oForm hW.row
       obtain ⟨ah, ch, rfl⟩ := oForm hW.heads
       obtain ⟨av, cv, rfl⟩ := oForm hW.lists
       have hBq := H.u.qlo
       have c2 := hW.blk.cell 2
       have z2 := hW.blk.frozen 2
       have lq := hW.blk.lt
       have lgo := hW.own.lt
       simp only [List.getElem?_toArray, List.getElem?_cons_zero, List.getElem?_cons_succ] at c2
       have hqgo : q ≠ go := fun e => by have h1 := hW.own.tg; rw [← e] at h1; exact absurd (ty_ne hW.blk.tg h1) (by decide)
       clear hW
       go_wp2_with (first
        | (at_builtin; refine wpList_append_atW rfl (.tmp 81) (.tmp 83) 27 rfl B 72 il (.slice none 0 0) 1 24 Tryz.underlying27 hil hl0 hl1 hl2 rfl (by decide) (.slice ah (hs.length + t) ch) (hs.length + t) _ rfl (HW.u.heads.alloc _) ⟨_, 0, none⟩ 1 1 [.slice aL (i + t) cL] rfl rfl (new1 _ _ (by simp) _ _) (fun x hx => by simp at hx; subst hx; rfl) (by unfold maxLen; omega) (by omega) (by omega) (by simp; omega) ?_; intro vh2 wa hown hgr hat; obtain ⟨ah2, ch2, rfl⟩ := oForm hown; have hS := fld_step 2 (by decide) hBq HW.u.blk HW.u.heads _ hgr hown; have m1 := HW.u.mid1 hS.2.2.2; have e2 := hS.1.cell 2; have e3 := hS.1.cell 3; have z3 := hS.1.frozen 2; have z4 := hS.1.frozen 3; have l3 := hS.1.lt; simp only [List.getElem?_toArray, List.getElem?_cons_zero, List.getElem?_cons_succ] at e2 e3; have HS1 := hI hS; have HM1 := hI m1; have HA1 := hI hat; clear hS m1 hown hgr hat c2 z2)
        | (at_builtin; refine wpList_append_own_at _ rfl (.tmp 91) (.tmp 93) 28 rfl B 3 ii (.int .i64 0) 1 8 Tryz.underlying28 hii hz0 hz1 hz2 rfl (by decide) (.slice av (hs.length + t) cv) (hs.length + t) _ rfl (HM1.u.1.alloc _) ⟨_, 0, none⟩ 1 1 [.int .i64 (hs.length : Int)] rfl rfl (new1 _ _ (by simp) _ _) (fun x hx => by simp at hx; subst hx; rfl) (by unfold maxLen; omega) (by omega) (by simp; omega) ?_; intro vl2 wc hown hgr _ hat; obtain ⟨av2, cv2, rfl⟩ := oForm hown; have hS := fld_step 3 (by decide) hBq HS1.u.2.1 HM1.u.1 _ hgr hown; have m1 := HW.u.mid2 HS1.u.2.2.2 hS.2.2.2; have y3 := hS.1.cell 3; have z5 := hS.1.frozen 3; have l5 := hS.1.lt; have o0 := m1.2.cell 0; have o1 := m1.2.cell 1; have lo2 := m1.2.lt; unfold markT at o1; simp only [List.getElem?_toArray, List.getElem?_cons_zero, List.getElem?_cons_succ] at y3 o0 o1; have s5 := Nat.le_trans hwx (Nat.le_trans HS1.u.2.2.2.fr.size hS.2.2.2.fr.size); simp at s5; have HS2 := hI hS; have HM2 := hI m1; have HA2 := hI hat; clear hS m1 hown hgr hat e2 e3 z3 z4 l3)
        | (at_builtin; refine wpList_append_keep rfl (.tmp 97) (.tmp 99) 72 rfl w.heap.size 153 iw (.agg #[.int .i64 0, .string ⟨#[]⟩]) 2 24 Tryz.underlying72 hiw hw0 hw1 hw2 rfl (by decide) (.slice aL (i + t) cL) (i + t) _ rfl (HM2.u.1.alloc _) ⟨_, 0, none⟩ 1 1 (ownC hs.length) rfl rfl (new2 _ _ (by simp) _ _ _) (fun x hx => by unfold ownC at hx; simp at hx; rcases hx with rfl | rfl <;> rfl) (by unfold maxLen; omega) (by omega) (by simp; omega) ?_; intro vL2 we hown hgr; obtain ⟨aL2, cL2, rfl⟩ := oForm hown; have HR3 := hI hown; have HG3 := hI hgr; clear hown hgr))
       go_roundg (4 - (t + 1))
       case measure => omega
       case rel =>
        have h3 := HW.u.round hBw hwx (by omega) HS1.u.2.2.2 HS1.u.2.2.1 HS2.u.2.2.2 HS2.u.2.2.1 (by have := HS2.u.2.1; simpa using this) HA1.u (by simp) HA2.u (by simp) HR3.u HG3.u
        exact ⟨t + 1, _, _, _, by omega, rfl, by go_num, h3.frm.fr.size, h3⟩
      ·obtain rfl : t = 4 := by omega
       have hW := HW.u
       have hh := H.u
       have oldX : ∀ x ∈ hs, ∀ k, x.1.ownBlock = some k → (k < w.heap.size ∧ ¬ (k = q ∨ k = p ∨ (Value.slice ah0 hs.length ch0).ownBlock = some k ∨ (Value.slice al0 hs.length cl0).ownBlock = some k)) ∧ k < w.heap.size := by
        intro x hx k hk
        have ht := (hh.tg x hx k hk).2
        have hlt : k < w.heap.size := by obtain ⟨cs, fz, hg⟩ := ht; exact (Array.getElem?_eq_some_iff.1 hg).1
        refine ⟨⟨hlt, ?_⟩, hlt⟩
        rintro (rfl | rfl | e | e)
        ·exact absurd (ty_ne ht hh.blk.tg) (by decide)
        ·exact absurd (ty_ne ht hh.led.blk.tg) (by decide)
        ·exact absurd (ty_ne ht (oTg hh.hds.heads k e).2) (by decide)
        ·exact absurd (ty_ne ht (oTg hh.hds.lists k e).2) (by decide)
       have hlen : (hs ++ nw).length = hs.length + 4 := by rw [List.length_append, hW.nlen]
       have hA : HeadsAt wr B vh' vl' (hs ++ nw) := by
        refine ⟨by rw [hlen]; exact hW.heads, by rw [hlen]; exact hW.lists, fun x hx => ?_⟩
        rcases List.mem_append.1 hx with hx | hx
        ·exact ⟨(hh.hds.marks x hx).1.frx hW.frm (oldX x hx), (hh.hds.marks x hx).2⟩
        ·obtain ⟨e1, e2, _⟩ := hW.new x hx
         rw [e1]
         exact ⟨e2, by omega⟩
       have hP : PairD (fun k => D k ∨ (w.heap.size ≤ k ∧ k < wr.heap.size)) wr B q s (hs.length + 4) := by
        obtain ⟨d1, d2⟩ := HD1.u
        refine ⟨p, c, vh', vl', va1, vt1, tv1, ⟨u, .slice none 0 0, []⟩, vp, vc, vt2, tv2, hs ++ nw, ⟨hW.blk, hW.led, by intro x hx; simp at hx, hW.rfd, hA, ?_, .inl hh.dp, ?_, ?_, ?_, .inl hh.dc, fun k hk => .inl (hh.dvp k hk), fun k hk => .inl (hh.dvc k hk), fun k hk => .inl (hh.dvt k hk), ?_, ?_, ?_, ?_, by omega, hh.qlo⟩, hlen⟩
        ·rintro k (rfl | hk | hk | ⟨x, hx, hk⟩)
         ·exact .inl (hh.dh _ (.inl rfl))
         ·rcases hW.hh k hk with e | e
          ·exact .inl (hh.dh k (.inr (.inl e)))
          ·exact .inr ⟨e, (own_lt' hW.heads k hk).2⟩
         ·rcases hW.ll k hk with e | e
          ·exact .inl (hh.dh k (.inr (.inr (.inl e))))
          ·exact .inr ⟨e, (own_lt' hW.lists k hk).2⟩
         ·rcases List.mem_append.1 hx with hx | hx
          ·exact .inl (hh.dh k (.inr (.inr (.inr ⟨x, hx, hk⟩))))
          ·obtain ⟨e1, _, cs, fz, hg⟩ := (hW.new x hx).2.2.1 k hk
           exact .inr ⟨e1, (Array.getElem?_eq_some_iff.1 hg).1⟩
        ·exact fun k hk => (d1 k hk).elim .inl (fun e => .inr ⟨e, (own_lt' hW.led.acs k hk).2⟩)
        ·exact fun k hk => (d2 k hk).elim .inl (fun e => .inr ⟨e, (own_lt' hW.led.txs.own k hk).2⟩)
        ·exact fun k hk => by simp [Value.ownBlock] at hk
        ·exact fun k hk => by simp [Value.ownBlock] at hk
        ·intro k hk e
         rcases hW.ll k e with e | e
         ·exact hh.sp k hk e
         ·have := (hW.sp k hk).2; omega
        ·intro x hx k hk
         rcases List.mem_append.1 hx with hx | hx
         ·exact ⟨(hh.tg x hx k hk).1, tg_keep hW.frm (oldX x hx k hk).1 (hh.tg x hx k hk).2⟩
         ·obtain ⟨e1, _, e2⟩ := (hW.new x hx).2.2.1 k hk
          exact ⟨by omega, e2⟩
        ·rintro k (hk | hk)
         ·exact Nat.lt_of_lt_of_le (hh.top k hk) hwx
         ·exact hk.2
       have hF : FrX (fun k => k < w.heap.size ∧ ¬ D k) B [102, 30, 72, 3, 153] w wr := by
        refine FrX.sub hW.frm (fun k hk => ⟨hk.1, ?_⟩)
        rintro (rfl | rfl | e | e)
        ·exact hk.2 (hh.dh _ (.inl rfl))
        ·exact hk.2 hh.dp
        ·exact hk.2 (hh.dh k (.inr (.inl e)))
        ·exact hk.2 (hh.dh k (.inr (.inr (.inl e))))
       have HL := hI (looks_any B q _ _ _ _ (hs ++ nw) wr hW.blk hA (by omega))
       have HP := hI hP
       have HF := hI hF
       clear hW hh oldX hlen hA hP hF
       go_wp2_with fail
       refine HL.u.mono ?_
       rintro e w9 ⟨rfl, hb9⟩
       have Hb9 := hI hb9
       clear hb9
       go_wp2_with fail
       go_ret
       have hb9 := Hb9.u
       have h9 := HP.u.kept hb9
       refine ⟨rfl, ?_, _, ?_, ?_, ?_, ?_, HF.u.then hb9⟩
       ·exact h9.wider (fun k hk => hk.elim .inl (fun e => .inr ⟨e.1, Nat.lt_of_lt_of_le e.2 hb9.size⟩)) (fun k hk => hk.elim (fun e => Nat.lt_of_lt_of_le (H.u.top k e) (Nat.le_trans hwx hb9.size)) (fun e => e.2))
       all_goals decide
theorem PairD.top {D : Nat → Prop} {w : World} {B q : Nat} {s : Bk} {n : Nat} (h : PairD D w B q s n) : ∀ k, D k → k < w.heap.size := by
 obtain ⟨p, c, vh, vl, va, vt, tv, d, vp, vc, vt2, tv2, hs, h, hn⟩ := h
 exact h.top
theorem Stepd.from {D : Nat → Prop} {w W w1 : World} {B q : Nat} {s : Bk} {n : Nat} (h : Stepd D W w1 B q s n) (hb : Below w.heap.size w W) : Stepd D w w1 B q s n := by
 obtain ⟨hp, Ts, t1, t2, t3, t4, hf⟩ := h
 have hs := hb.size
 refine ⟨hp.wider (fun k hk => hk.elim .inl (fun e => .inr ⟨Nat.le_trans hs e.1, e.2⟩)) (fun k hk => hk.elim (fun e => hp.top k (.inl e)) (fun e => e.2)), Ts, t1, t2, t3, t4, (FrX.of_below hb).trans (FrX.sub hf (fun k hk => ⟨Nat.lt_of_lt_of_le hk.1 hs, hk.2⟩))⟩
theorem Stepd.then {D : Nat → Prop} {w w1 w2 : World} {B q : Nat} {s : Bk} {n : Nat} (h : Stepd D w w1 B q s n) (hb : Below w1.heap.size w1 w2) : Stepd D w w2 B q s n := by
 obtain ⟨hp, Ts, t1, t2, t3, t4, hf⟩ := h
 refine ⟨(hp.kept hb).wider (fun k hk => hk.elim .inl (fun e => .inr ⟨e.1, Nat.lt_of_lt_of_le e.2 hb.size⟩)) (fun k hk => hk.elim (fun e => Nat.lt_of_lt_of_le (hp.top k (.inl e)) hb.size) (fun e => e.2)), Ts, t1, t2, t3, t4, hf.then hb⟩
theorem doD_any (D : Nat → Prop) (B q : Nat) (s : Bk) (n : Nat) (x : ActV) (w : World) (h : PairD D w B q s n) (hn4 : n ≤ 7999999999990) (hx : ActOk w B x) (hk : x.kd ≠ 10) (ht : Tab w) :
  Calls Tryz.prog 47 #[.pointer (some ⟨q, 0, none⟩), x.val] w fun e w' => e = .returned (.bool true) ∧ ∃ n', n' ≤ n + 4 ∧ Stepd D w w' B q (stp s x) n' := by
 obtain ⟨kd, bk, a, b, ao, cap, ls, t⟩ := x
 obtain ⟨hl, hlo, hn, hm⟩ := hx
 simp only at hl hlo hn hm hk
 unfold ActV.val
 simp only
 obtain ⟨W, hW⟩ : ∃ W, w.alloc (.cells #[.int .i64 kd, .int .i64 bk, .int .i64 a, .int .i64 b, .slice ao ls.length cap, .string t] 33) = W := ⟨_, rfl⟩
 have HX : Hid (Blk W w.heap.size #[.int .i64 kd, .int .i64 bk, .int .i64 a, .int .i64 b, .slice ao ls.length cap, .string t] 33) := by rw [← hW]; exact Blk.new _ _ _
 have Hb0 : Hid (Below w.heap.size w W) := by rw [← hW]; exact (Below.refl _ _).alloc (Nat.le_refl _) _
 have H0 := hI (h.kept Hb0.u)
 have Hl0 := hI (hl.kept Hb0.u)
 have HT0 := hI (ht.below Hb0.u)
 have Hlo := hI hlo
 have x0 := HX.u.cell 0
 have x1 := HX.u.cell 1
 have x2 := HX.u.cell 2
 have x3 := HX.u.cell 3
 have x4 := HX.u.cell 4
 have x5 := HX.u.cell 5
 simp only [List.getElem?_toArray, List.getElem?_cons_zero, List.getElem?_cons_succ] at x0 x1 x2 x3 x4 x5
 clear h hl hlo ht
 obtain ⟨p, c, vh, vl, va, vt, tv, d, vp, vc, vt2, tv2, hs, hP, hhn⟩ := H0.u
 have c0 := hP.blk.cell 0
 have c1 := hP.blk.cell 1
 simp only [List.getElem?_toArray, List.getElem?_cons_zero, List.getElem?_cons_succ] at c0 c1
 have HP := hI hP
 clear hP
 by_cases k1 : kd = 1
 ·subst k1
  have hs' : stp s ⟨1, bk, a, b, ao, cap, ls, t⟩ = (opn s a).2.2 := rfl
  rw [hs']
  have Hc := hI (openedX_any _ B q p c vh vl s 1 bk a b ao ls.length cap t W HP.u.pairX)
  clear hs' hk
  go_enter Tryz.func47, Tryz.ntmps47
  go_wp2_with fail
  try rw [hW]
  refine Hc.u.mono ?_
  rintro e w1 ⟨rfl, h1, h2⟩
  have H1 := hI ((HP.u.stepd h1 h2).from Hb0.u)
  clear h1 h2
  go_wp2_with fail
  go_ret
  exact ⟨rfl, hs.length, by omega, H1.u⟩
 by_cases k2 : kd = 2
 ·subst k2
  have hs' : stp s ⟨2, bk, a, b, ao, cap, ls, t⟩ = (cls s a).2 := rfl
  rw [hs']
  have Hc := hI (closedX_any _ B q p c vh vl s 2 bk a b ao ls.length cap t W HP.u.pairX)
  clear hs' hk k1
  go_enter Tryz.func47, Tryz.ntmps47
  go_wp2_with fail
  try rw [hW]
  refine Hc.u.mono ?_
  rintro e w1 ⟨rfl, h1, h2⟩
  have H1 := hI ((HP.u.stepd h1 h2).from Hb0.u)
  clear h1 h2
  go_wp2_with fail
  go_ret
  exact ⟨rfl, hs.length, by omega, H1.u⟩
 by_cases k3 : kd = 3
 ·subst k3
  have hs' : stp s ⟨3, bk, a, b, ao, cap, ls, t⟩ = (pst s a b ls).2 := rfl
  rw [hs']
  have Hc := hI (postedX_any _ B q p c vh vl s 3 bk a b ao cap ls t W HP.u.pairX Hl0.u Hlo.u hn)
  clear hs' hk k1 k2
  go_enter Tryz.func47, Tryz.ntmps47
  go_wp2_with fail
  try rw [hW]
  refine Hc.u.mono ?_
  rintro e w1 ⟨rfl, h1, h2⟩
  have H1 := hI ((HP.u.stepd h1 h2).from Hb0.u)
  clear h1 h2
  go_wp2_with fail
  go_ret
  exact ⟨rfl, hs.length, by omega, H1.u⟩
 have hst : stp s ⟨kd, bk, a, b, ao, cap, ls, t⟩ = s := by
  unfold stp
  simp only
  rw [if_neg (by simpa using k1), if_neg (by simpa using k2), if_neg (by simpa using k3)]
 rw [hst]
 clear hst
 by_cases k4 : kd = 4
 ·subst k4
  have Hc := hI (reportedX_any _ B q p c vh vl s 4 bk a b ao ls.length cap t W HP.u.pairX hm HT0.u)
  clear hk k1 k2 k3
  go_enter Tryz.func47, Tryz.ntmps47
  go_wp2_with fail
  try rw [hW]
  refine Hc.u.mono ?_
  rintro e w1 ⟨rfl, hb1⟩
  have H1 := hI ((H0.u.rest hb1).from Hb0.u)
  clear hb1
  go_wp2_with fail
  go_ret
  exact ⟨rfl, n, by omega, H1.u⟩
 by_cases k5 : kd = 5
 ·subst k5
  have Hc := hI (written_any D W B q p c vh vl va vt tv d vp vc vt2 tv2 hs s HP.u (by omega))
  clear hk k1 k2 k3 k4
  go_enter Tryz.func47, Tryz.ntmps47
  go_wp2_with fail
  try rw [hW]
  refine Hc.u.mono ?_
  rintro e w1 ⟨rfl, h1⟩
  have H1 := hI (h1.from Hb0.u)
  clear h1
  go_wp2_with fail
  go_ret
  exact ⟨rfl, hs.length + 4, by omega, H1.u⟩
 by_cases k6 : kd = 6
 ·subst k6
  have Hc := hI (dayAccounts_any B p s W ⟨va, vt, tv, d, HP.u.led⟩ HT0.u)
  have Hr := hI (fun (wx : World) (hb : Below W.heap.size W wx) => refAccounts_any B c s wx ⟨vp, vc, vt2, tv2, HP.u.rfd.kept hb⟩)
  clear hk k1 k2 k3 k4 k5
  go_enter Tryz.func47, Tryz.ntmps47
  go_wp2_with fail
  try rw [hW]
  refine Hc.u.mono ?_
  rintro e w1 ⟨u1, rfl, hu1, hb1⟩
  have Hu1 := hI hu1
  have Hb1 := hI hb1
  have c1 := (HP.u.blk.kept hb1).cell 1
  simp only [List.getElem?_toArray, List.getElem?_cons_zero, List.getElem?_cons_succ] at c1
  clear hu1 hb1
  go_wp2_with fail
  refine (Hr.u w1 Hb1.u).mono ?_
  rintro e w3 ⟨u3, rfl, hu3, hb3⟩
  obtain rfl : u3 = u1 := L_inj (hu3.trans Hu1.u.symm)
  have H1 := hI ((H0.u.rest (Hb1.u.then hb3)).from Hb0.u)
  clear hu3 hb3
  go_wp2_with fail
  go_ret
  exact ⟨rfl, n, by omega, H1.u⟩
 by_cases k11 : kd = 11
 ·subst k11
  have Hc := hI (dayJournal_any B p s W ⟨va, vt, tv, d, HP.u.led⟩ HT0.u)
  have Hr := hI (fun (wx : World) (hb : Below W.heap.size W wx) => refJournal_any B c s wx ⟨vp, vc, vt2, tv2, HP.u.rfd.kept hb⟩)
  clear hk k1 k2 k3 k4 k5 k6
  go_enter Tryz.func47, Tryz.ntmps47
  go_wp2_with fail
  try rw [hW]
  refine Hc.u.mono ?_
  rintro e w1 ⟨u1, rfl, hu1, hb1⟩
  have Hu1 := hI hu1
  have Hb1 := hI hb1
  have c1 := (HP.u.blk.kept hb1).cell 1
  simp only [List.getElem?_toArray, List.getElem?_cons_zero, List.getElem?_cons_succ] at c1
  clear hu1 hb1
  go_wp2_with fail
  refine (Hr.u w1 Hb1.u).mono ?_
  rintro e w3 ⟨u3, rfl, hu3, hb3⟩
  obtain rfl : u3 = u1 := L_inj (hu3.trans Hu1.u.symm)
  have H1 := hI ((H0.u.rest (Hb1.u.then hb3)).from Hb0.u)
  clear hu3 hb3
  go_wp2_with fail
  go_ret
  exact ⟨rfl, n, by omega, H1.u⟩
 have e1 : (kd == 1) = false := by simpa using k1
 have e2 : (kd == 2) = false := by simpa using k2
 have e3 : (kd == 3) = false := by simpa using k3
 have e4 : (kd == 4) = false := by simpa using k4
 have e5 : (kd == 5) = false := by simpa using k5
 have e6 : (kd == 6) = false := by simpa using k6
 have e7 : (kd == 11) = false := by simpa using k11
 have e8 : (kd == 10) = false := by simpa using hk
 have H1 := hI ((H0.u.rest (Below.refl _ _)).from Hb0.u)
 go_enter Tryz.func47, Tryz.ntmps47
 go_wp2_with fail
 try rw [hW]
 go_ret
 exact ⟨rfl, n, by omega, H1.u⟩
end Go.Proofs.YtdchbenfccofpaaGreatDoor
