/- Own texts of the theorem in YtdchbenfccofpaaGreatDoorWAlY, part 19. -/
import Derived.Test.YtdchbenfccofpaaGreatDoorJ07
import Derived.Test.YtdchbenfccofpaaGreatDoorJ18
import Derived.Test.YtdchbenfccofpaaGreatDoorJ06
import Derived.BigQuiet
import Derived.Test.YtdchbenfccofpaaGreatDoorJ03
import Derived.Test.YtdchbenfccofpaaGreatDoorJ15
import Derived.Deep.AppendLies
import Derived.Deep.RegionLaw
set_option maxRecDepth 100000
set_option maxHeartbeats 4000000
namespace Go.Proofs.YtdchbenfccofpaaGreatDoor
open Go.RowKit Db
end Go.Proofs.YtdchbenfccofpaaGreatDoor
namespace Go.RowKit
theorem FrX.over {X : Nat → Prop} {B g : Nat} {Ts : List TypeId} {w w3 w4 : World} (h : FrX X B Ts w w3) (hf : Frm w3.heap.size (fun k => k = g) w3 w4) (hg : w.heap.size ≤ g) : FrX X B Ts w w4 := by
 have key : ∀ k, k < w.heap.size → w4.heap[k]? = w3.heap[k]? := fun k hk => hf.block k (Nat.lt_of_lt_of_le hk h.fr.size) (by omega)
 exact ⟨⟨hf.os.trans h.fr.os, hf.tape.trans h.fr.tape, hf.output.trans h.fr.output, Nat.le_trans h.fr.size hf.size, fun k hk hx => (key k hk).trans (h.fr.block k hk hx)⟩, fun k hk hl => (key k hl).trans (h.keep k hk hl)⟩
end Go.RowKit
namespace Go.Proofs.YtdchbenfccofpaaGreatDoor
open Go.RowKit Db
theorem dayPostL_any (X : Nat → Prop) (B p : Nat) (s : Bk) (id day : Int) (v : Value) (ls : List Ln) (w : World) (va vt : Value) (tv : List (Tn × Value)) (d : Dk) (h : LedAx X w B p va vt tv d s) (hp : PrW d.ws) (hl : LinesAt w v ls) (hty : ∀ k, v.ownBlock = some k → Tg w k 89) :
  Calls Tryz.prog 69 #[.pointer (some ⟨p, 0, none⟩), .int .i64 id, .int .i64 day, v] w fun e w' => e = .returned (.int .i64 (pst s id day ls).1) ∧ (∃ d', LedM X w tv w' B p d' (pst s id day ls).2 ∧ PrW d'.ws) ∧ FrX X B tP w w' := by
 have h1 := h.dcnt
 have h2 := cnt_bound h.good
 have hg := h.good
 refine (dayPostM_any X B p d.u d.ws s id day v ls w va vt d.vw tv h hl hty).mono ?_
 rintro e w' ⟨k1, ⟨_, k2⟩, k3⟩
 refine ⟨k1, ⟨_, k2, hp.more (fun hy => ⟨by omega, secB_sz _ _ _ _ ?_⟩)⟩, k3⟩
 rcases pst_cnt hg id day ls with ⟨_, _, _, _, _, _, h4, _⟩ | ⟨h0, _⟩
 ·exact h4
 ·rw [h0] at hy; cases hy
theorem RefAx.frP {X Y : Nat → Prop} {w w' : World} {B B' p : Nat} {vp vc vt : Value} {tv : List (Tn × Value)} {s : Bk} (h : RefAx X w B p vp vc vt tv s) (hf : FrX Y B' tP w w') : RefAx X w' B p vp vc vt tv s :=
 ⟨h.toRefAt.frT hf.fr (by decide) (by decide), h.xq, h.xp, h.xc, h.xt, fun k hk => Nat.lt_of_lt_of_le (h.top k hk) hf.fr.size⟩
theorem LedAx.onlyX {X : Nat → Prop} {w w' : World} {B p g : Nat} {va vt : Value} {tv : List (Tn × Value)} {d : Dk} {s : Bk} (h : LedAx X w B p va vt tv d s) (hf : Frm w.heap.size (fun k => k = g) w w') (hg : Tg w g 89) (hn : ∀ x ∈ tv, ∀ k, x.2.ownBlock = some k → k ≠ g) : LedAx X w' B p va vt tv d s :=
 ⟨h.toLedAt.only hf hg hn, h.xp, h.xa, h.xt, h.xw, fun k hk => Nat.lt_of_lt_of_le (h.top k hk) hf.size⟩
theorem RefAx.onlyX {X : Nat → Prop} {w w' : World} {B p g : Nat} {vp vc vt : Value} {tv : List (Tn × Value)} {s : Bk} (h : RefAx X w B p vp vc vt tv s) (hf : Frm w.heap.size (fun k => k = g) w w') (hg : Tg w g 89) (hn : ∀ x ∈ tv, ∀ k, x.2.ownBlock = some k → k ≠ g) : RefAx X w' B p vp vc vt tv s :=
 ⟨h.toRefAt.only hf hg hn, h.xq, h.xp, h.xc, h.xt, fun k hk => Nat.lt_of_lt_of_le (h.top k hk) hf.size⟩
theorem postedX_any (X : Nat → Prop) (B q p c : Nat) (vh vl : Value) (s : Bk) (kd bk a b : Int) (ao : Option Addr) (cap : Nat) (ls : List Ln) (t : ByteArray) (w : World) (h : PairX X w B q p c vh vl s) (hl : LinesAt w (.slice ao ls.length cap) ls) (hlo : ls = [] ∨ ∀ k, (Value.slice ao ls.length cap).ownBlock = some k → k < B) (hn : ls.length ≤ 8796093022000) :
  Calls Tryz.prog 83 #[.pointer (some ⟨q, 0, none⟩), .agg #[.int .i64 kd, .int .i64 bk, .int .i64 a, .int .i64 b, .slice ao ls.length cap, .string t]] w fun e w' => e = .returned (.bool true) ∧ PairX X w' B q p c vh vl (pst s a b ls).2 ∧ FrX X B tAll w w' := by
 obtain ⟨bx, hbx⟩ : ∃ bx, w.heap.size = bx := ⟨_, rfl⟩
 obtain ⟨W, hW⟩ : ∃ W, w.alloc (.cells #[.int .i64 kd, .int .i64 bk, .int .i64 a, .int .i64 b, .slice ao ls.length cap, .string t] 33) = W := ⟨_, rfl⟩
 have HX : Hid (Blk W bx #[.int .i64 kd, .int .i64 bk, .int .i64 a, .int .i64 b, .slice ao ls.length cap, .string t] 33) := by rw [← hW, ← hbx]; exact Blk.new _ _ _
 have Hb0 : Hid (Below w.heap.size w W) := by rw [← hW]; exact (Below.refl _ _).alloc (Nat.le_refl _) _
 have hWs : W.heap.size = bx + 1 := by rw [← hW, ← hbx]; simp
 obtain ⟨hq, ⟨va, vt, tv, dk, hled, hpw⟩, ⟨vp, vc, vu, tu, href⟩⟩ := h
 have Hpw := hI hpw
 clear hpw
 have Htv : Hid (∀ x ∈ tv, ∀ k, x.2.ownBlock = some k → k < bx) := fun x hx k hk => by rw [← hbx]; exact ownsRow_block_lt (hled.txs.lns x hx) k hk
 have Htu : Hid (∀ x ∈ tu, ∀ k, x.2.ownBlock = some k → k < bx) := fun x hx k hk => by rw [← hbx]; exact ownsRow_block_lt (href.txs.lns x hx) k hk
 have hBx : B ≤ bx := by have h1 := hled.lo; have h2 := hled.blk.lt; omega
 have HL0 := hI (hled.keptX Hb0.u)
 have HR0 := hI (href.keptX Hb0.u)
 have HQ0 := hI (hq.kept Hb0.u)
 have Hl0 := hI (hl.kept Hb0.u)
 have Hlo := hI hlo
 obtain ⟨⟨x, s'⟩, hr⟩ : ∃ r, pst s a b ls = r := ⟨_, rfl⟩
 have Hpp : Hid (∀ (wx : World) (va vt : Value) (tv : List (Tn × Value)) (dk : Dk) (g : Nat), LedAx X wx B p va vt tv dk s → PrW dk.ws → LinesAt wx (.slice (some ⟨g, 0, none⟩) ls.length (ls.length + 2)) ls → Tg wx g 89 → Calls Tryz.prog 69 #[.pointer (some ⟨p, 0, none⟩), .int .i64 a, .int .i64 b, .slice (some ⟨g, 0, none⟩) ls.length (ls.length + 2)] wx fun e w' => e = .returned (.int .i64 x) ∧ (∃ dk', LedM X wx tv w' B p dk' s' ∧ PrW dk'.ws) ∧ FrX X B tP wx w') := by
  intro wx va vt tv dk g h1 h1p h2 h3
  have := dayPostL_any X B p s a b _ ls wx va vt tv dk h1 h1p h2 (fun k hk => by simp only [Value.ownBlock, Option.some.injEq] at hk; subst hk; exact h3)
  rw [hr] at this
  exact this
 have Hrp : Hid (∀ (wx : World), Rfdx X wx B c s → LinesAt wx (.slice ao ls.length cap) ls → Calls Tryz.prog 15 #[.pointer (some ⟨c, 0, none⟩), .int .i64 a, .int .i64 b, .slice ao ls.length cap] wx fun e w' => e = .returned (.int .i64 x) ∧ Rfdx X w' B c s' ∧ FrX X B tR wx w') := by
  intro wx h1 h2
  have := refPostX_any X B c s a b _ ls wx h1 h2
  rw [hr] at this
  exact this
 rw [hr]
 simp only
 have x4 := HX.u.cell 4
 simp only [List.getElem?_toArray, List.getElem?_cons_zero, List.getElem?_cons_succ] at x4
 have Hbx := hI hbx
 clear hled href hq hl hlo hr
 go_enter Tryz.func83, Tryz.ntmps83
 go_wp2_with fail
 try rw [hW]
 try rw [hbx]
 clear hW hbx
 refine (handed_any _ ls W Hl0.u hn).mono ?_
 rintro e w1 ⟨rfl, hg1, hb1⟩
 obtain ⟨g, hg⟩ : ∃ g, W.heap.size = g := ⟨_, rfl⟩
 rw [hg] at hg1 ⊢
 have hgx : bx < g := by omega
 have Hg1 := hI hg1
 have HB1 := hI hb1
 have HL1 := hI (HL0.u.keptX hb1)
 have HR1 := hI (HR0.u.keptX hb1)
 have HQ1 := hI (HQ0.u.kept hb1)
 have Hl1 := hI (Hl0.u.kept hb1)
 have HX1 := hI (HX.u.kept hb1)
 have hg1l := hg1.lt
 have c0 := HQ1.u.cell 0
 have x2 := HX1.u.cell 2
 have x3 := HX1.u.cell 3
 simp only [List.getElem?_toArray, List.getElem?_cons_zero, List.getElem?_cons_succ] at c0 x2 x3
 clear hg1 hb1 x4 hg
 go_upto_region 2 with fail
 go_region_held3 (fun w' => w'.cell? ⟨q, 0, none⟩ = some (.pointer (some ⟨p, 0, none⟩)) ∧ w'.cell? ⟨bx, 2, none⟩ = some (.int .i64 a) ∧ w'.cell? ⟨bx, 3, none⟩ = some (.int .i64 b)) (first | go_keep | exact ⟨k1, k2, k3⟩) (first | (go_at_call 69; refine (Hpp.u _ _ _ _ _ _ (by exact HL1.u.keptX (below_drew _)) Hpw.u (by exact (LinesAt.of_handed Hg1.u).kept (below_drew _)) (by exact (Hg1.u.kept (below_drew _)).tg)).mono ?_; rintro e w2 ⟨rfl, h1, h2⟩; have h2u := h2.undrew; have k1 := (HQ1.u.frT h2u.fr (by decide)).cell 0; have k2 := (HX1.u.frT h2u.fr (by decide)).cell 2; have k3 := (HX1.u.frT h2u.fr (by decide)).cell 3; simp only [List.getElem?_toArray, List.getElem?_cons_zero, List.getElem?_cons_succ] at k1 k2 k3))
 have hu2 := h2.undrew
 obtain ⟨dk2, ⟨va2, vt2, tv2, hled2, hnew⟩, hpw2⟩ := h1
 have Hpw2 := hI hpw2
 clear hpw2
 have HL2 := hI hled2
 have Hnew : Hid (∀ x ∈ tv2, ∀ k, x.2.ownBlock = some k → k ≠ g) := by
  intro x hx k hk
  rcases hnew x hx with hx | hx
  ·have := Htv.u x hx k hk; omega
  ·have := hx k hk
   have h5 : w1.drew.heap.size = w1.heap.size := rfl
   omega
 have HF2 := hI hu2
 have HR2 := hI (HR1.u.frP hu2)
 have HQ2 := hI (HQ1.u.frT hu2.fr (by decide))
 have HX2 := hI (HX1.u.frT hu2.fr (by decide))
 have Hg2 := hI (Hg1.u.frT hu2.fr (by decide))
 have Hl2 := hI (Hl1.u.frT hu2.fr Hlo.u)
 have x4 := HX2.u.cell 4
 simp only [List.getElem?_toArray, List.getElem?_cons_zero, List.getElem?_cons_succ] at x4
 clear h2 h2u hu2 hled2 hnew k1 k2 k3 c0 x2 x3
 go_wp2_with fail
 refine (still_any g _ ls w2 Hg2.u Hl2.u hn).mono ?_
 rintro e w3 ⟨rfl, n3, hw3⟩
 have hb3 : Below w2.heap.size w2 w3 := by rw [hw3]; exact (Below.refl _ _).drewN n3
 have HL3 := hI (HL2.u.keptX hb3)
 have HR3 := hI (HR2.u.keptX hb3)
 have HQ3 := hI (HQ2.u.kept hb3)
 have HX3 := hI (HX2.u.kept hb3)
 have Hg3 := hI (Hg2.u.kept hb3)
 have Hl3 := hI (Hl2.u.kept hb3)
 have HF3 := hI (HF2.u.then hb3)
 clear hw3 hb3 x4
 go_wp2_with fail
 refine (over_any g ls.length (hcells ls) w3 Hg3.u (hcells_size ls) hn).mono ?_
 rintro e w4 ⟨rfl, hf4⟩
 have HL4 := hI (HL3.u.onlyX hf4 Hg3.u.tg Hnew.u)
 have HR4 := hI (HR3.u.onlyX hf4 Hg3.u.tg (fun x hx k hk => by have := Htu.u x hx k hk; omega))
 have HQ4 := hI (HQ3.u.frm hf4 HQ3.u.lt (tg_ne HQ3.u.tg Hg3.u.tg (by decide)))
 have HX4 := hI (HX3.u.frm hf4 HX3.u.lt (tg_ne HX3.u.tg Hg3.u.tg (by decide)))
 have Hl4 := hI (Hl3.u.only hf4 (Hlo.u.imp id (fun hh k hk => by have := hh k hk; omega)))
 have HF4 : Hid (FrX X B tAll w w4) := (((FrX.of_below Hb0.u).then HB1.u).trans (HF3.u.mono (by simp [tAll]; intros; simp [*]))).over hf4 (by have := Hbx.u; omega)
 have c1 := HQ4.u.cell 1
 have x2 := HX4.u.cell 2
 have x3 := HX4.u.cell 3
 have x4 := HX4.u.cell 4
 simp only [List.getElem?_toArray, List.getElem?_cons_zero, List.getElem?_cons_succ] at c1 x2 x3 x4
 clear hf4
 go_upto_region 5 with fail
 go_region_held3 (fun w' => w'.cell? ⟨q, 1, none⟩ = some (.pointer (some ⟨c, 0, none⟩)) ∧ w'.cell? ⟨bx, 2, none⟩ = some (.int .i64 a) ∧ w'.cell? ⟨bx, 3, none⟩ = some (.int .i64 b) ∧ w'.cell? ⟨bx, 4, none⟩ = some (.slice ao ls.length cap)) (first | go_keep | exact ⟨k1, k2, k3, k4⟩) (first | (go_at_call 15; refine (Hrp.u _ (by exact Rfdx.drew ⟨_, _, _, _, HR4.u⟩) (by exact Hl4.u.kept (below_drew _))).mono ?_; rintro e w5 ⟨rfl, h1, h2⟩; have h2u := h2.undrew; have k1 := (HQ4.u.frT h2u.fr (by decide)).cell 1; have k2 := (HX4.u.frT h2u.fr (by decide)).cell 2; have k3 := (HX4.u.frT h2u.fr (by decide)).cell 3; have k4 := (HX4.u.frT h2u.fr (by decide)).cell 4; simp only [List.getElem?_toArray, List.getElem?_cons_zero, List.getElem?_cons_succ] at k1 k2 k3 k4))
 have HF : Hid (PairX X w5 B q p c vh vl s' ∧ FrX X B tAll w w5) := ⟨⟨HQ4.u.frT h2.undrew.fr (by decide), Ledx.frR ⟨_, _, _, _, HL4.u, Hpw2.u⟩ h2.undrew, h1⟩, HF4.u.trans (h2.undrew.mono (by simp [tAll]; intros; simp [*]))⟩
 have e1 : (x == x) = true := by simp
 clear h1 h2 h2u k1 k2 k3 k4 c1 x2 x3 x4
 go_wp2_with fail
 go_ret
 exact ⟨rfl, HF.u.1, HF.u.2⟩
theorem reportedX_any (X : Nat → Prop) (B q p c : Nat) (vh vl : Value) (s : Bk) (kd bk a b : Int) (ao : Option Addr) (n cap : Nat) (t : ByteArray) (w : World) (h : PairX X w B q p c vh vl s) (hm : t.size ≤ maxLen) (ht : Tab w) :
  Calls Tryz.prog 84 #[.pointer (some ⟨q, 0, none⟩), .agg #[.int .i64 kd, .int .i64 bk, .int .i64 a, .int .i64 b, .slice ao n cap, .string t]] w fun e w' => e = .returned (.bool true) ∧ Below w.heap.size w w' := by
 obtain ⟨bx, hbx⟩ : ∃ bx, w.heap.size = bx := ⟨_, rfl⟩
 obtain ⟨W, hW⟩ : ∃ W, w.alloc (.cells #[.int .i64 kd, .int .i64 bk, .int .i64 a, .int .i64 b, .slice ao n cap, .string t] 33) = W := ⟨_, rfl⟩
 have HX : Hid (Blk W bx #[.int .i64 kd, .int .i64 bk, .int .i64 a, .int .i64 b, .slice ao n cap, .string t] 33) := by rw [← hW, ← hbx]; exact Blk.new _ _ _
 have Hb0 : Hid (Below w.heap.size w W) := by rw [← hW]; exact (Below.refl _ _).alloc (Nat.le_refl _) _
 have H0 := hI (h.keptX Hb0.u)
 have hWs : w.heap.size ≤ W.heap.size := Hb0.u.size
 have Hop := hI (fun (wx : World) (hb : Below w.heap.size w wx) => dayReport_any B p s t wx (h.led.keptX hb).led hm (ht.below hb))
 have Hor := hI (fun (wx : World) (u : ByteArray) (er : Int) (hb : Below w.heap.size w wx) (hc : RepIs s t u er) => refReport_any B c s t u wx (h.rfd.keptX hb).rfd hm er hc)
 have c0 := H0.u.blk.cell 0
 have x5 := HX.u.cell 5
 simp only [List.getElem?_toArray, List.getElem?_cons_zero, List.getElem?_cons_succ] at c0 x5
 clear h
 go_enter Tryz.func84, Tryz.ntmps84
 go_upto_region 1 with fail
 try rw [hW]
 try rw [hbx]
 have Hbx := hI hbx
 clear hW hbx
 go_region_held3 (fun w' => w'.cell? ⟨q, 0, none⟩ = some (.pointer (some ⟨p, 0, none⟩)) ∧ w'.cell? ⟨bx, 5, none⟩ = some (.string t)) (first | go_keep | exact ⟨kept_cell' hb4 (by simp [*]), kept_cell' hb4 (by simp [*])⟩) (first | (go_at_call 27; refine (Hop.u _ (by exact Hb0.u.drew)).mono ?_; rintro e w4 ⟨u, er, rfl, hu, hb4⟩))
 have Hu := hI hu
 have hb4u := hb4.undrew
 have Hb4 := hI (Hb0.u.then' hWs hb4u)
 have k1 := (H0.u.keptX hb4u).blk.cell 1
 have k5 := (HX.u.kept hb4u).cell 5
 simp only [List.getElem?_toArray, List.getElem?_cons_zero, List.getElem?_cons_succ] at k1 k5
 have hs4 : w.heap.size ≤ w4.heap.size := Hb4.u.size
 clear hu hb4 hb4u c0 x5
 go_upto_region 2 with fail
 go_region_held3 (fun w' => w'.cell? ⟨q, 1, none⟩ = some (.pointer (some ⟨c, 0, none⟩)) ∧ w'.cell? ⟨bx, 5, none⟩ = some (.string t)) (first | go_keep | exact ⟨kept_cell' hb5 (by simp [*]), kept_cell' hb5 (by simp [*])⟩) (first | (go_at_call 124; refine (Hor.u _ u er (by exact Hb4.u.drew) Hu.u).mono ?_; rintro e w5 ⟨rfl, hb5⟩))
 have Hb5 := hI (Hb4.u.then' hs4 hb5.undrew)
 have e1 : (er == er) = true := by simp
 clear hb5
 go_wp2_with fail
 go_ret
 exact ⟨rfl, Hb5.u⟩
def prT (a b : Int) : List UInt8 := Lib.itoa a ++ 58 :: Lib.itoa b
def lnT (l : List Ln) : List UInt8 := l.flatMap fun x => 44 :: prT x.1 x.2
def txT (t : Tn) : List UInt8 := prT t.1 t.2.1 ++ lnT t.2.2
def jrL (s : Bk) : List (List UInt8) := s.txs.map txT
def jrT (s : Bk) : List UInt8 := jn 59 (jrL s)
theorem lnT_step {l : List Ln} {j : Nat} {x : Ln} (h : l[j]? = some x) : lnT (l.take (j + 1)) = lnT (l.take j) ++ 44 :: prT x.1 x.2 := by
 unfold lnT; rw [List.take_add_one, h]; simp
theorem prT_size {a b : Int} (h0 : -9223372036854775808 ≤ a) (h1 : a ≤ 9223372036854775807) (h2 : -9223372036854775808 ≤ b) (h3 : b ≤ 9223372036854775807) : (prT a b).length ≤ 43 := by
 have := Lib.itoa_length_le a h0 h1
 have := Lib.itoa_length_le b h2 h3
 unfold prT
 rw [List.length_append, List.length_cons]
 omega
theorem jr_step {s : Bk} {j : Nat} {t : Tn} (h : s.txs[j]? = some t) {u x : List UInt8} (hu : u = jn 59 ((jrL s).take j)) (hx : x = txT t) :
  (j = 0 → u ++ x = jn 59 ((jrL s).take (j + 1))) ∧ (0 < j → u ++ [59] ++ x = jn 59 ((jrL s).take (j + 1))) := by
 have hm : (jrL s)[j]? = some x := by unfold jrL; rw [List.getElem?_map, h, hx]; rfl
 constructor
 ·rintro rfl
  rw [jn_one hm, hu]; rfl
 ·intro hj
  rw [jn_more hj hm, hu]; simp
structure TxOk (t : Tn) : Prop where
 id : 0 ≤ t.1 ∧ t.1 ≤ 9999
 day : 0 ≤ t.2.1 ∧ t.2.1 ≤ 999
 few : t.2.2.length ≤ 4
 lns : ∀ l ∈ t.2.2, 0 < l.1 ∧ l.1 < 16 ∧ -1000000000000 ≤ l.2 ∧ l.2 ≤ 1000000000000
theorem good_ok {s : Bk} (h : BkGood s) {t : Tn} (ht : t ∈ s.txs) : TxOk t := by
 have := h.tx t ht
 exact ⟨⟨this.1, this.2.1⟩, ⟨this.2.2.1, this.2.2.2.1⟩, this.2.2.2.2.1, this.2.2.2.2.2⟩
theorem showPair_any (a b : Int) (w : World) (h0 : -9223372036854775808 ≤ a) (h1 : a ≤ 9223372036854775807) (h2 : -9223372036854775808 ≤ b) (h3 : b ≤ 9223372036854775807) (ht : Tab w) :
  Calls Tryz.prog 125 #[.int .i64 a, .int .i64 b] w fun e w' => ∃ u : ByteArray, e = .returned (.string u) ∧ L u = prT a b ∧ Below w.heap.size w w' := by
 have Ht := hI ht
 clear ht
 go_enter Tryz.func125, Tryz.ntmps125
 go_wp2_with fail
 refine (itoa_any a _ h0 h1 Ht.u).mono ?_
 rintro e w1 ⟨u1, rfl, hu1, hb1⟩
 have hs1 := itoa_size h0 h1 hu1
 have Hu1 := hI hu1
 have Hb1 := hI hb1
 clear hu1 hb1
 go_wp2_with fail
 refine (itoa_any b _ h2 h3 (Ht.u.below Hb1.u)).mono ?_
 rintro e w2 ⟨u2, rfl, hu2, hb2⟩
 have hs2 := itoa_size h2 h3 hu2
 have Hu2 := hI hu2
 have Hb2 := hI (Hb1.u.then hb2)
 clear hu2 hb2
 go_wp2_with fail
 go_ret
 refine ⟨_, rfl, ?_, Hb2.u⟩
 rw [L_append, L_append, Hu1.u, Hu2.u]
 show Lib.itoa a ++ [58] ++ Lib.itoa b = _
 unfold prT
 simp
theorem showTx_any (ti td : Int) (ls : List Ln) (v : Value) (w : World) (hok : TxOk (ti, td, ls)) (hl : LinesAt w v ls) (ht : Tab w) :
  Calls Tryz.prog 88 #[.agg #[.int .i64 ti, .int .i64 td, v]] w fun e w' => ∃ u : ByteArray, e = .returned (.string u) ∧ L u = txT (ti, td, ls) ∧ u.size ≤ 219 ∧ Below w.heap.size w w' := by
 obtain ⟨ao, cap, rfl⟩ := hl.form
 obtain ⟨⟨i0, i1⟩, ⟨d0, d1⟩, h4, hln⟩ := hok
 simp only at i0 i1 d0 d1 h4 hln
 have Ht := hI ht
 have Hl := hI hl
 have Hln := hI hln
 obtain ⟨W, hW⟩ : ∃ W, w.alloc (.cells #[.int .i64 ti, .int .i64 td, .slice ao ls.length cap] 148) = W := ⟨_, rfl⟩
 have HB : Hid (Blk W w.heap.size #[.int .i64 ti, .int .i64 td, .slice ao ls.length cap] 148) := by rw [← hW]; exact Blk.new _ _ _
 have Hw : Hid (Below w.heap.size w W) := by rw [← hW]; exact (Below.refl _ _).alloc (Nat.le_refl _) _
 have x0 := HB.u.cell 0
 have x1 := HB.u.cell 1
 simp only [List.getElem?_toArray, List.getElem?_cons_zero, List.getElem?_cons_succ] at x0 x1
 clear ht hl hln
 go_enter Tryz.func88, Tryz.ntmps88
 go_wp2_with fail
 try rw [hW]
 refine (showPair_any ti td W (by omega) (by omega) (by omega) (by omega) (Ht.u.below Hw.u)).mono ?_
 rintro e w1 ⟨u0, rfl, hu0, hb1⟩
 have hz0 : u0.size ≤ 43 := by rw [size_L, hu0]; exact prT_size (by omega) (by omega) (by omega) (by omega)
 have HB1 := hI (HB.u.kept hb1)
 have x2 := HB1.u.cell 2
 simp only [List.getElem?_toArray, List.getElem?_cons_zero, List.getElem?_cons_succ] at x2
 have Hb1 := hI (Hw.u.then hb1)
 have Hu0 := hI hu0
 clear hu0 hb1 hW
 go_wp2_with fail
 go_loopg [3, 14] ls.length (fun m vu i wr => ∃ j : Nat, ∃ u : ByteArray, j ≤ ls.length ∧ m = ls.length - j ∧ i = .int .i64 j ∧ vu = .string u ∧ u.size ≤ 43 + 44 * j ∧ Hid (L u = prT ti td ++ lnT (ls.take j)) ∧ Hid (Below w.heap.size w wr))
 case atStart => exact ⟨0, u0, by omega, rfl, rfl, rfl, by omega, by show _ = _; rw [Hu0.u]; simp [lnT], Hb1.u⟩
 case round =>
  obtain ⟨j, u, hj, rfl, rfl, rfl, hus, Hu, Hb⟩ := hrel
  have hsz := Hb.u.size
  by_cases hlt : j < ls.length
  ·obtain ⟨⟨la, lm⟩, hlj⟩ : ∃ l, ls[j]? = some l := ⟨ls[j], List.getElem?_eq_getElem hlt⟩
   obtain ⟨_, b, off, rfl, hbl, d1', d2'⟩ := (Hl.u.kept Hb.u).line hlj
   have hb := Hln.u _ (List.mem_of_getElem? hlj)
   have Hst := hI (lnT_step hlj)
   simp only at d1' d2' hb Hst
   clear hlj
   go_wp2_with fail
   refine (showPair_any la lm _ (by omega) (by omega) (by omega) (by omega) (Ht.u.below (by exact Hb.u.alloc hsz _))).mono ?_
   rintro e w3 ⟨y, rfl, hy, hb3⟩
   have hyz : y.size ≤ 43 := by rw [size_L, hy]; exact prT_size (by omega) (by omega) (by omega) (by omega)
   have Hb3 : Hid (Below w.heap.size w w3) := (Hb.u.alloc hsz _).then' (by simp; omega) hb3
   have Hy := hI hy
   clear hy hb3
   go_wp2_with fail
   go_roundg (ls.length - (j + 1))
   case measure => omega
   case rel => exact ⟨j + 1, u ++ (⟨#[44]⟩ ++ y), by omega, rfl, by go_num, rfl, by rw [ByteArray.size_append, ByteArray.size_append]; show u.size + (1 + y.size) ≤ _; omega, by show _ = _; rw [L_append, L_append, Hu.u, Hy.u, Hst.u, List.append_assoc]; rfl, Hb3.u⟩
  ·obtain rfl : j = ls.length := by omega
   go_wp2_with fail
   go_ret
   refine ⟨u, rfl, ?_, by omega, Hb.u⟩
   rw [Hu.u, List.take_length]; rfl
theorem ledJournal_any (B p : Nat) (s : Bk) (w : World) (h : Led w B p s) (ht : Tab w) :
  Calls Tryz.prog 50 #[.pointer (some ⟨p, 0, none⟩)] w fun e w' => ∃ u : ByteArray, e = .returned (.string u) ∧ L u = jrT s ∧ Below w.heap.size w w' := by
 obtain ⟨va, vt, tv, dk, h⟩ := h
 obtain ⟨ao, cap, rfl⟩ := oForm h.txs.own
 have c1 := h.blk.cell 1
 simp only [List.getElem?_toArray, List.getElem?_cons_zero, List.getElem?_cons_succ] at c1
 have hlen : tv.length ≤ 64 := by have := h.good.posts; rw [← h.jr, List.length_map] at this; exact this
 have Hjr := hI h.jr
 have H := hI h
 have Ht := hI ht
 clear h ht
 go_enter Tryz.func50, Tryz.ntmps50
 go_wp2_with fail
 go_loopg [3, 11] tv.length (fun m vu i wr => ∃ j : Nat, ∃ u : ByteArray, j ≤ tv.length ∧ m = tv.length - j ∧ i = .int .i64 j ∧ vu = .string u ∧ u.size ≤ 220 * j ∧ Hid (L u = jn 59 ((jrL s).take j)) ∧ Hid (Below w.heap.size w wr))
 case atStart => exact ⟨0, ⟨#[]⟩, by omega, rfl, rfl, rfl, Nat.le_refl 0, rfl, Below.refl _ _⟩
 case round =>
  obtain ⟨j, u, hj, rfl, rfl, rfl, hus, Hu, Hb⟩ := hrel
  have hsz := Hb.u.size
  by_cases hlt : j < tv.length
  ·obtain ⟨⟨t, v⟩, htj⟩ : ∃ t, tv[j]? = some t := ⟨tv[j], List.getElem?_eq_getElem hlt⟩
   obtain ⟨g, _, e1, hg, hg'⟩ := oSome H.u.txs.own (by omega)
   simp only [Value.slice.injEq, true_and] at e1
   obtain ⟨rfl, rfl⟩ := e1
   have h3 := three_get (fun x : Tn × Value => Value.int .i64 x.1.1) (fun x => .int .i64 x.1.2.1) (fun x => x.2) tv j (t, v) htj
   have hro := oBelow H.u.txs.own Hb.u
   have d0 := oCell hro (j := j * 3) h3.1
   have d1 := oCell hro (j := j * 3 + 1) h3.2.1
   have d2 := oCell hro (j := j * 3 + 2) h3.2.2
   have hln := (H.u.kept Hb.u).txs.lns _ (List.mem_of_getElem? htj)
   have hst : s.txs[j]? = some t := by rw [← Hjr.u, List.getElem?_map, htj]; rfl
   have Hok := hI (good_ok H.u.good (List.mem_of_getElem? hst))
   have Hst := hI (fun x => jr_step (x := x) hst Hu.u)
   obtain ⟨ti, td, ls⟩ := t
   simp only at d0 d1 d2 hln
   obtain ⟨aol, capl, rfl⟩ := oForm hln
   have Hln := hI hln
   clear h3 hro hln hst htj
   by_cases hj0 : j = 0
   ·subst hj0
    go_wp2_with fail
    refine (showTx_any ti td ls _ _ Hok.u (by exact (LinesAt.of_own Hln.u).kept ((Below.refl _ _).alloc (Nat.le_refl _) _)) (Ht.u.below (by exact Hb.u.alloc hsz _))).mono ?_
    rintro e w3 ⟨y, rfl, hy, hyz, hb3⟩
    have Hb3 : Hid (Below w.heap.size w w3) := (Hb.u.alloc hsz _).then' (by simp; omega) hb3
    have Hn := hI ((Hst.u _ hy).1 (by simp))
    clear hy hb3
    go_wp2_with fail
    go_roundg (tv.length - (0 + 1))
    case measure => omega
    case rel => exact ⟨0 + 1, u ++ y, by omega, rfl, by go_num, rfl, by rw [ByteArray.size_append]; omega, by show _ = _; rw [L_append]; exact Hn.u, Hb3.u⟩
   ·have hdd : decide ((0 : Int) < (j : Int)) = true := by simp; omega
    go_wp2_with fail
    refine (showTx_any ti td ls _ _ Hok.u (by exact (LinesAt.of_own Hln.u).kept ((Below.refl _ _).alloc (Nat.le_refl _) _)) (Ht.u.below (by exact Hb.u.alloc hsz _))).mono ?_
    rintro e w3 ⟨y, rfl, hy, hyz, hb3⟩
    have Hb3 : Hid (Below w.heap.size w w3) := (Hb.u.alloc hsz _).then' (by simp; omega) hb3
    have Hn := hI ((Hst.u _ hy).2 (by omega))
    clear hy hb3
    go_wp2_with fail
    go_roundg (tv.length - (j + 1))
    case measure => omega
    case rel => exact ⟨j + 1, u ++ ⟨#[59]⟩ ++ y, by omega, rfl, by go_num, rfl, by rw [ByteArray.size_append, ByteArray.size_append]; show u.size + 1 + y.size ≤ _; omega, by show _ = _; rw [L_append, L_append]; exact Hn.u, Hb3.u⟩
  ·obtain rfl : j = tv.length := by omega
   go_wp2_with fail
   go_ret
   refine ⟨u, rfl, ?_, Hb.u⟩
   rw [Hu.u, List.take_of_length_le (by unfold jrL; rw [List.length_map, ← Hjr.u, List.length_map]; exact Nat.le_refl _)]; rfl
theorem dayJournal_any (B p : Nat) (s : Bk) (w : World) (h : Led w B p s) (ht : Tab w) :
  Calls Tryz.prog 20 #[.pointer (some ⟨p, 0, none⟩)] w fun e w' => ∃ u : ByteArray, e = .returned (.string u) ∧ L u = jrT s ∧ Below w.heap.size w w' := by
 have Hc := hI (ledJournal_any B p s w h ht)
 clear h ht
 go_enter Tryz.func20, Tryz.ntmps20
 go_wp2_with fail
 refine Hc.u.mono ?_
 rintro e w1 ⟨u, rfl, hu, hb⟩
 have Hu := hI hu
 have Hb := hI hb
 clear hu hb
 go_wp2_with fail
 go_ret
 exact ⟨u, rfl, Hu.u, Hb.u⟩
theorem refJournal_any (B p : Nat) (s : Bk) (w : World) (h : Rfd w B p s) :
  Calls Tryz.prog 21 #[.pointer (some ⟨p, 0, none⟩)] w fun e w' => ∃ u : ByteArray, e = .returned (.string u) ∧ L u = jrT s ∧ Below w.heap.size w w' := by
 obtain ⟨vp, vc, vt, tv, h⟩ := h
 obtain ⟨ao, cap, rfl⟩ := oForm h.txs.own
 have hlen : tv.length ≤ 64 := by have := h.good.posts; rw [← h.jr, List.length_map] at this; exact this
 have Hjr := hI h.jr
 have H := hI h
 clear h
 go_enter Tryz.func21, Tryz.ntmps21
 go_wp2_with fail
 go_loopg [3, 4] tv.length (fun m vu i wr => ∃ j : Nat, ∃ u : ByteArray, j ≤ tv.length ∧ m = tv.length - j ∧ i = .int .i64 j ∧ vu = .string u ∧ u.size ≤ 230 * j ∧ Hid (L u = jn 59 ((jrL s).take j)) ∧ Hid (Below w.heap.size w wr))
 case atStart => exact ⟨0, ⟨#[]⟩, by omega, rfl, rfl, rfl, Nat.le_refl 0, rfl, Below.refl _ _⟩
 case round =>
  obtain ⟨j, u, hj, rfl, rfl, rfl, hus, Hu, Hb⟩ := hrel
  have hsz := Hb.u.size
  have H1 := hI (H.u.kept Hb.u)
  have c2 := H1.u.blk.cell 2
  simp only [List.getElem?_toArray, List.getElem?_cons_zero, List.getElem?_cons_succ] at c2
  by_cases hlt : j < tv.length
  ·obtain ⟨⟨t, v⟩, htj⟩ : ∃ t, tv[j]? = some t := ⟨tv[j], List.getElem?_eq_getElem hlt⟩
   obtain ⟨g, _, e1, hg, hg'⟩ := oSome H1.u.txs.own (by omega)
   simp only [Value.slice.injEq, true_and] at e1
   obtain ⟨rfl, rfl⟩ := e1
   have h3 := three_get (fun x : Tn × Value => Value.int .i64 x.1.1) (fun x => .int .i64 x.1.2.1) (fun x => x.2) tv j (t, v) htj
   have d0 := oCell H1.u.txs.own (j := j * 3) h3.1
   have d1 := oCell H1.u.txs.own (j := j * 3 + 1) h3.2.1
   have d2 := oCell H1.u.txs.own (j := j * 3 + 2) h3.2.2
   have hln := H1.u.txs.lns _ (List.mem_of_getElem? htj)
   have hst : s.txs[j]? = some t := by rw [← Hjr.u, List.getElem?_map, htj]; rfl
   have hok := good_ok H.u.good (List.mem_of_getElem? hst)
   have Hst := hI (fun x => jr_step (x := x) hst Hu.u)
   obtain ⟨ti, td, ls⟩ := t
   obtain ⟨⟨i0, i1⟩, ⟨dd0, dd1⟩, h4, hlb⟩ := hok
   simp only at d0 d1 d2 hln i0 i1 dd0 dd1 h4 hlb
   obtain ⟨aol, capl, rfl⟩ := oForm hln
   have Hlb := hI hlb
   obtain ⟨W, hW⟩ : ∃ W, wr.alloc (.cells #[.int .i64 ti, .int .i64 td, .slice aol ls.length capl] 87) = W := ⟨_, rfl⟩
   obtain ⟨bx, hbx⟩ : ∃ bx, wr.heap.size = bx := ⟨_, rfl⟩
   have HB : Hid (Blk W bx #[.int .i64 ti, .int .i64 td, .slice aol ls.length capl] 87) := by rw [← hW, ← hbx]; exact Blk.new _ _ _
   have Hw : Hid (Below w.heap.size w W) := by rw [← hW]; exact Hb.u.alloc hsz _
   have HlW : Hid (LinesAt W (.slice aol ls.length capl) ls) := by rw [← hW]; exact (LinesAt.of_own hln).kept ((Below.refl _ _).alloc (Nat.le_refl _) _)
   have hWs : W.heap.size = bx + 1 := by rw [← hW, ← hbx]; simp
   have x0 := HB.u.cell 0
   simp only [List.getElem?_toArray, List.getElem?_cons_zero] at x0
   obtain ⟨u1, hu1, hz1, Hst1⟩ : ∃ u1 : ByteArray, (u1 = if j = 0 then u else u ++ ⟨#[59]⟩) ∧ u1.size ≤ 230 * j + 1 ∧ Hid (∀ x, x = txT (ti, td, ls) → L u1 ++ x = jn 59 ((jrL s).take (j + 1))) := by
    by_cases hj0 : j = 0
    ·exact ⟨u, by rw [if_pos hj0], by omega, fun x hx => (Hst.u x hx).1 hj0⟩
    ·refine ⟨u ++ ⟨#[59]⟩, by rw [if_neg hj0], by rw [ByteArray.size_append]; show u.size + 1 ≤ _; omega, fun x hx => ?_⟩
     rw [L_append]
     exact (Hst.u x hx).2 (by omega)
   clear h3 hln hst htj hlb Hst
   have hcase : (decide (0 < j) = true ∧ u1 = u ++ ⟨#[59]⟩) ∨ (decide (0 < j) = false ∧ u1 = u) := by
    by_cases hj0 : j = 0
    ·rw [if_pos hj0] at hu1; exact .inr ⟨by simp; omega, hu1⟩
    ·rw [if_neg hj0] at hu1; exact .inl ⟨by simp; omega, hu1⟩
   clear hu1
   rcases hcase with ⟨hbb0, hu1⟩ | ⟨hbb0, hu1⟩
   all_goals
    go_wp2_with fail
    try rw [hW]
    try rw [← hu1]
    clear hu1
    refine (number10_any ti W (by omega) (by omega)).mono ?_
    rintro e w2 ⟨a, rfl, ha, hb2⟩
    have haz : a.size ≤ 21 := itoa_size (by omega) (by omega) ha
    have Hb2 := hI hb2
    have x1 := (HB.u.kept hb2).cell 1
    simp only [List.getElem?_toArray, List.getElem?_cons_zero, List.getElem?_cons_succ] at x1
    have Ha := hI ha
    clear ha hb2 x0
    go_wp2_with fail
    refine (number10_any td _ (by omega) (by omega)).mono ?_
    rintro e w3 ⟨b, rfl, hb, hb3⟩
    have hbz : b.size ≤ 21 := itoa_size (by omega) (by omega) hb
    have Hb3 := hI (Hb2.u.then hb3)
    have Hbb := hI hb
    clear hb hb3 x1
    go_wp2_with fail
    go_loopg [3, 8] ls.length (fun m vu i wx => ∃ q : Nat, ∃ y : ByteArray, q ≤ ls.length ∧ m = ls.length - q ∧ i = .int .i64 q ∧ vu = .string y ∧ y.size ≤ 230 * j + 44 + 44 * q ∧ Hid (L y = L u1 ++ prT ti td ++ lnT (ls.take q)) ∧ Hid (Below W.heap.size W wx))
    case atStart => exact ⟨0, u1 ++ a ++ ⟨#[58]⟩ ++ b, by omega, rfl, rfl, rfl, by rw [ByteArray.size_append, ByteArray.size_append, ByteArray.size_append]; show u1.size + a.size + 1 + b.size ≤ _; omega, by show _ = _; rw [L_append, L_append, L_append, Ha.u, Hbb.u]; simp [lnT, prT, L], Hb3.u⟩
    case round =>
     obtain ⟨q, y, hq, rfl, rfl, rfl, hyz, Hy, Hb4⟩ := hrel
     have hsz4 := Hb4.u.size
     have HB4 := hI (HB.u.kept Hb4.u)
     have x2 := HB4.u.cell 2
     simp only [List.getElem?_toArray, List.getElem?_cons_zero, List.getElem?_cons_succ] at x2
     by_cases hlt2 : q < ls.length
     ·obtain ⟨⟨la, lm⟩, hlj⟩ : ∃ l, ls[q]? = some l := ⟨ls[q], List.getElem?_eq_getElem hlt2⟩
      obtain ⟨_, bl, off, rfl, hbl, f1, f2⟩ := (HlW.u.kept Hb4.u).line hlj
      have hbb := Hlb.u _ (List.mem_of_getElem? hlj)
      have Hs2 := hI (lnT_step hlj)
      have Hf2 := hI (fun (wx : World) (hb : Below W.heap.size W wx) => ((HlW.u.kept hb).line hlj))
      simp only at f1 f2 hbb Hs2
      clear hlj
      go_wp2_with fail
      refine (number10_any la _ (by omega) (by omega)).mono ?_
      rintro e w5 ⟨c, rfl, hc, hb5⟩
      have hcz : c.size ≤ 21 := itoa_size (by omega) (by omega) hc
      have Hb5 := hI (Hb4.u.then hb5)
      have x5 := (HB.u.kept Hb5.u).cell 2
      simp only [List.getElem?_toArray, List.getElem?_cons_zero, List.getElem?_cons_succ] at x5
      obtain ⟨_, b5, off5, e5, _, _, f5⟩ := Hf2.u _ Hb5.u
      simp only [Option.some.injEq, Addr.mk.injEq, and_true] at e5
      obtain ⟨rfl, rfl⟩ := e5
      have Hc := hI hc
      clear hc hb5 x2 f1 f2
      go_wp2_with fail
      refine (number10_any lm _ (by omega) (by omega)).mono ?_
      rintro e w6 ⟨d, rfl, hd, hb6⟩
      have hdz : d.size ≤ 21 := itoa_size (by omega) (by omega) hd
      have Hb6 := hI (Hb5.u.then hb6)
      have Hd := hI hd
      clear hd hb6 x5 f5
      go_wp2_with fail
      go_roundg (ls.length - (q + 1))
      case measure => omega
      case rel => exact ⟨q + 1, y ++ ⟨#[44]⟩ ++ c ++ ⟨#[58]⟩ ++ d, by omega, rfl, by go_num, rfl, by rw [ByteArray.size_append, ByteArray.size_append, ByteArray.size_append, ByteArray.size_append]; show y.size + 1 + c.size + 1 + d.size ≤ _; omega, by show _ = _; rw [L_append, L_append, L_append, L_append, Hy.u, Hc.u, Hd.u, Hs2.u]; simp [prT, L], Hb6.u⟩
     ·obtain rfl : q = ls.length := by omega
      have Hfin : Hid (L y = jn 59 ((jrL s).take (j + 1))) := by
       show _ = _
       rw [Hy.u, List.take_length, List.append_assoc]
       exact Hst1.u _ rfl
      go_wp2_with fail
      go_roundg (tv.length - (j + 1))
      case measure => omega
      case rel => exact ⟨j + 1, y, by omega, rfl, by go_num, rfl, by omega, Hfin.u, Hw.u.then' (by omega) Hb4.u⟩
  ·obtain rfl : j = tv.length := by omega
   go_wp2_with fail
   go_ret
   refine ⟨u, rfl, ?_, Hb.u⟩
   rw [Hu.u, List.take_of_length_le (by unfold jrL; rw [List.length_map, ← Hjr.u, List.length_map]; exact Nat.le_refl _)]; rfl
def markT : ByteArray := ⟨#[109, 97, 114, 107]⟩
def MarkAt (w : World) (v : Value) (k : Nat) : Prop := ∃ ao n cap, v = .slice ao n cap ∧ n ≤ 1000 ∧ (n = 0 ∨ ∃ g, ao = some ⟨g, 0, none⟩ ∧ g < w.heap.size ∧ ∀ i, i < n → w.cell? ⟨g, i * 2, none⟩ = some (.int .i64 (77 + (k : Int))) ∧ w.cell? ⟨g, i * 2 + 1, none⟩ = some (.string markT))
theorem MarkAt.same {w w' : World} {v : Value} {k : Nat} (h : MarkAt w v k) (hs : w.heap.size ≤ w'.heap.size) (hb : ∀ g, v.ownBlock = some g → w'.heap[g]? = w.heap[g]?) : MarkAt w' v k := by
 obtain ⟨ao, n, cap, rfl, hn, hr⟩ := h
 refine ⟨ao, n, cap, rfl, hn, ?_⟩
 rcases hr with hr | ⟨g, rfl, hlt, hc⟩
 ·exact .inl hr
 ·have h1 : ∀ j, w'.cell? ⟨g, j, none⟩ = w.cell? ⟨g, j, none⟩ := fun j => World.cell?_of_block (a := ⟨g, j, none⟩) (hb g rfl)
  exact .inr ⟨g, rfl, Nat.lt_of_lt_of_le hlt hs, fun i hi => by rw [h1, h1]; exact hc i hi⟩
theorem MarkAt.kept {w w' : World} {v : Value} {k : Nat} (h : MarkAt w v k) (hb : Below w.heap.size w w') : MarkAt w' v k := by
 obtain ⟨ao, n, cap, rfl, hn, hr⟩ := h
 refine ⟨ao, n, cap, rfl, hn, ?_⟩
 rcases hr with hr | ⟨g, rfl, hlt, hc⟩
 ·exact .inl hr
 ·exact .inr ⟨g, rfl, Nat.lt_of_lt_of_le hlt hb.size, fun i hi => by rw [hb.cell (p := ⟨g, i * 2, none⟩) hlt, hb.cell (p := ⟨g, i * 2 + 1, none⟩) hlt]; exact hc i hi⟩
theorem marked_any (v : Value) (k : Nat) (w : World) (h : MarkAt w v k) (hk : k ≤ 20000000000000) :
  Calls Tryz.prog 55 #[v, .int .i64 (k : Int)] w fun e w' => e = .returned (.bool true) ∧ w' = w := by
 obtain ⟨ao, n, cap, rfl, hn, hr⟩ := h
 have Hr := hI hr
 clear hr
 obtain ⟨mt, hmt⟩ : ∃ mt, markT = mt := ⟨_, rfl⟩
 go_enter Tryz.func55, Tryz.ntmps55
 go_wp2_with fail
 go_loopg [5] n (fun m vi wr => ∃ j : Nat, j ≤ n ∧ m = n - j ∧ vi = .int .i64 j ∧ wr = w)
 case atStart => exact ⟨0, by omega, rfl, rfl, rfl⟩
 case round =>
  obtain ⟨j, hj, rfl, rfl, hwr⟩ := hrel
  obtain rfl := hwr.symm
  by_cases hlt : j < n
  ·obtain ⟨g, rfl, hgl, hc⟩ := Hr.u.resolve_left (by omega)
   obtain ⟨d1, d2⟩ := hc j hlt
   unfold markT at d2
   have e1 : ((77 + (k : Int)) != (77 + (k : Int))) = false := by simp
   clear hc
   go_wp2_with fail
   go_roundg (n - (j + 1))
   case measure => omega
   case rel => exact ⟨j + 1, by omega, rfl, by go_num, rfl⟩
  ·obtain rfl : j = n := by omega
   go_wp2_with fail
   go_ret
   exact ⟨rfl, rfl⟩
structure HeadsAt (w : World) (B : Nat) (vh vl : Value) (hs : List (Value × Nat)) : Prop where
 heads : w.ownsRow B 72 1 vh hs.length (hs.map (·.1))
 lists : w.ownsRow B 3 1 vl hs.length (hs.map fun h => .int .i64 (h.2 : Int))
 marks : ∀ h ∈ hs, MarkAt w h.1 h.2 ∧ h.2 ≤ 20000000000000
theorem HeadsAt.kept {w w' : World} {B : Nat} {vh vl : Value} {hs : List (Value × Nat)} (h : HeadsAt w B vh vl hs) (hb : Below w.heap.size w w') : HeadsAt w' B vh vl hs :=
 ⟨oBelow h.heads hb, oBelow h.lists hb, fun x hx => ⟨(h.marks x hx).1.kept hb, (h.marks x hx).2⟩⟩
theorem looks_any (B q : Nat) (v0 v1 vh vl : Value) (hs : List (Value × Nat)) (w : World) (hq : Blk w q #[v0, v1, vh, vl] 30) (h : HeadsAt w B vh vl hs) (hlen : hs.length ≤ 20000000000000) :
  Calls Tryz.prog 24 #[.pointer (some ⟨q, 0, none⟩)] w fun e w' => e = .returned (.bool true) ∧ Below w.heap.size w w' := by
 obtain ⟨ah, ch, rfl⟩ := oForm h.heads
 obtain ⟨al, cl, rfl⟩ := oForm h.lists
 have HQ := hI hq
 have H := hI h
 clear hq h
 go_enter Tryz.func24, Tryz.ntmps24
 go_wp2_with fail
 go_loopg [3] hs.length (fun m vi wr => ∃ j : Nat, j ≤ hs.length ∧ m = hs.length - j ∧ vi = .int .i64 j ∧ Hid (Below w.heap.size w wr))
 case atStart => exact ⟨0, by omega, rfl, rfl, Below.refl _ _⟩
 case round =>
  obtain ⟨j, hj, rfl, rfl, Hb⟩ := hrel
  have c2 := (HQ.u.kept Hb.u).cell 2
  have c3 := (HQ.u.kept Hb.u).cell 3
  have lq := (HQ.u.kept Hb.u).lt
  simp only [List.getElem?_toArray, List.getElem?_cons_zero, List.getElem?_cons_succ] at c2 c3
  by_cases hlt : j < hs.length
  ·have hk := H.u.kept Hb.u
   obtain ⟨x, hx⟩ : ∃ x, hs[j]? = some x := ⟨hs[j], List.getElem?_eq_getElem hlt⟩
   obtain ⟨gh, _, e1, hgh, hgh'⟩ := oSome hk.heads (by omega)
   simp only [Value.slice.injEq, true_and] at e1
   obtain ⟨rfl, rfl⟩ := e1
   obtain ⟨gl, _, e2, hgl, hgl'⟩ := oSome hk.lists (by omega)
   simp only [Value.slice.injEq, true_and] at e2
   obtain ⟨rfl, rfl⟩ := e2
   have d1 := oCell hk.heads (j := j) (u := x.1) (by rw [List.getElem?_map, hx]; rfl)
   have d2 := oCell hk.lists (j := j) (u := .int .i64 (x.2 : Int)) (by rw [List.getElem?_map, hx]; rfl)
   obtain ⟨hm, hm2⟩ := hk.marks x (List.mem_of_getElem? hx)
   obtain ⟨v, k⟩ := x
   simp only at d1 d2 hm hm2
   obtain ⟨ao, n, cap, rfl, hn⟩ : ∃ ao n cap, v = .slice ao n cap ∧ n ≤ 1000 := by obtain ⟨ao, n, cap, e, hn, _⟩ := hm; exact ⟨ao, n, cap, e, hn⟩
   have Hm := hI (fun (wx : World) (hb : Below wr.heap.size wr wx) => marked_any (.slice ao n cap) k wx (hm.kept hb) hm2)
   clear hk hx hm
   go_upto_region 4 with fail
   go_region_held3 (fun w' => w'.cell? ⟨q, 2, none⟩ = some (.slice (some ⟨gh, 0, none⟩) hs.length ch) ∧ w'.cell? ⟨q, 3, none⟩ = some (.slice (some ⟨gl, 0, none⟩) hs.length cl) ∧ w'.cell? ⟨gh, j, none⟩ = some (.slice ao n cap) ∧ w'.cell? ⟨gl, j, none⟩ = some (.int .i64 (k : Int))) (first | go_keep | exact ⟨c2, c3, d1, d2⟩) (first | (go_at_call 55; refine (Hm.u _ (by exact (below_drew _))).mono ?_; rintro e w4 ⟨rfl, hw4⟩; subst hw4))
   go_wp2_with fail
   go_roundg (hs.length - (j + 1))
   case measure => omega
   case rel => exact ⟨j + 1, by omega, rfl, by go_num, by first | exact Hb.u.drew | exact Hb.u.drewN _ | exact Hb.u⟩
  ·obtain rfl : j = hs.length := by omega
   go_wp2_with fail
   go_ret
   exact ⟨rfl, Hb.u⟩
theorem told_any (B q p c : Nat) (vh vl : Value) (s : Bk) (w : World) (hq : Blk w q #[.pointer (some ⟨p, 0, none⟩), .pointer (some ⟨c, 0, none⟩), vh, vl] 30) (hl : Led w B p s) (hr : Rfd w B c s) (ht : Tab w) :
  Calls Tryz.prog 23 #[.pointer (some ⟨q, 0, none⟩)] w fun e w' => e = .returned (.bool true) ∧ Below w.heap.size w w' := by
 have HQ := hI hq
 have HL : Hid (∀ wx, Below w.heap.size w wx → Led wx B p s) := by
  intro wx hb
  obtain ⟨va, vt, tv, dk, h1⟩ := hl
  exact ⟨_, _, _, _, h1.kept hb⟩
 have HR : Hid (∀ wx, Below w.heap.size w wx → Rfd wx B c s) := by
  intro wx hb
  obtain ⟨vp, vc, vt, tv, h1⟩ := hr
  exact ⟨_, _, _, _, h1.kept hb⟩
 have Ht : Hid (∀ wx, Below w.heap.size w wx → Tab wx) := fun wx hb => ht.below hb
 have c0 := hq.cell 0
 simp only [List.getElem?_toArray, List.getElem?_cons_zero] at c0
 clear hq hl hr ht
 go_enter Tryz.func23, Tryz.ntmps23
 go_wp2_with fail
 refine (dayAccounts_any B p s w (HL.u _ (Below.refl _ _)) (Ht.u _ (Below.refl _ _))).mono ?_
 rintro e w1 ⟨u1, rfl, hu1, hb1⟩
 have Hu1 := hI hu1
 have Hb1 := hI hb1
 have c0 := (HQ.u.kept hb1).cell 0
 simp only [List.getElem?_toArray, List.getElem?_cons_zero] at c0
 clear hu1 hb1
 go_wp2_with fail
 refine (dayJournal_any B p s w1 (HL.u _ Hb1.u) (Ht.u _ Hb1.u)).mono ?_
 rintro e w2 ⟨u2, rfl, hu2, hb2⟩
 have Hu2 := hI hu2
 have Hb2 := hI (Hb1.u.then hb2)
 have c1 := (HQ.u.kept Hb2.u).cell 1
 simp only [List.getElem?_toArray, List.getElem?_cons_zero, List.getElem?_cons_succ] at c1
 clear hu2 hb2
 go_wp2_with fail
 refine (refAccounts_any B c s w2 (HR.u _ Hb2.u)).mono ?_
 rintro e w3 ⟨u3, rfl, hu3, hb3⟩
 obtain rfl : u3 = u1 := L_inj (hu3.trans Hu1.u.symm)
 have Hb3 := hI (Hb2.u.then hb3)
 have c1 := (HQ.u.kept Hb3.u).cell 1
 simp only [List.getElem?_toArray, List.getElem?_cons_zero, List.getElem?_cons_succ] at c1
 clear hu3 hb3
 go_wp2_with fail
 refine (refJournal_any B c s w3 (HR.u _ Hb3.u)).mono ?_
 rintro e w4 ⟨u4, rfl, hu4, hb4⟩
 obtain rfl : u4 = u2 := L_inj (hu4.trans Hu2.u.symm)
 have Hb4 := hI (Hb3.u.then hb4)
 clear hu4 hb4
 go_wp2_with fail
 go_ret
 exact ⟨rfl, Hb4.u⟩
structure Cd (w : World) (b : Nat) (v : Value) (ws : List Pt) : Prop where
 blk : Blk w b #[v] 226
 own : w.ownsRow (b + 1) 197 2 v ws.length (cellsP ws)
theorem own_take {w : World} {B : Nat} {ao : Option Addr} {cap : Nat} {e : TypeId} {q x : List Pt} (h : w.ownsRow B e 2 (.slice ao (q ++ x).length cap) (q ++ x).length (cellsP (q ++ x))) :
   w.ownsRow B e 2 (.slice ao q.length cap) q.length (cellsP q) := by
 obtain ⟨_, h2⟩ := h
 rcases h2 with ⟨h0, h1⟩ | ⟨g', cap', cur, hv, hg, hh, hn, hcap, hsz, htake⟩
 · have hq : q = [] ∧ x = [] := by
     cases q with
     | nil => cases x with
       | nil => exact ⟨rfl, rfl⟩
       | cons a t => simp at h1
     | cons a t => simp at h1
   obtain ⟨rfl, rfl⟩ := hq
   exact ⟨rfl, .inl ⟨h0, rfl⟩⟩
 · cases hv
   refine ⟨by rw [cellsP_length], .inr ⟨g', cap, cur, rfl, hg, hh, by simp at hn; omega, hcap, hsz, ?_⟩⟩
   have h1 : (cur.toList.take ((q ++ x).length * 2)).take (q.length * 2) = cellsP q := by
     rw [htake, cellsP_append, List.take_append_of_le_length (by rw [cellsP_length]; omega), List.take_of_length_le (by rw [cellsP_length]; omega)]
   rwa [List.take_take, show min (q.length * 2) ((q ++ x).length * 2) = q.length * 2 by simp] at h1
theorem cd_pushed {w : World} {b : Nat} {v0 v2 : Value} {q : List Pt} {s n : Int} (hb : Blk w b #[v0] 226) (ho : w.ownsRow (b + 1) 197 2 v2 (q.length + 1) (cellsP q ++ [.int .u8 s, .int .i64 n])) : Cd (w.setCell ⟨b, 0, none⟩ v2) b v2 (q ++ [(s, n)]) := by
 refine ⟨hb.set 0 v2, ?_⟩
 have := ownsRow_setCell_below ho (a := ⟨b, 0, none⟩) (by simp) v2
 rw [cellsP_append]
 simpa [cellsP] using this
theorem replace_any (b : Nat) (v : Value) (q x : List Pt) (c : Cl) (w : World) (h : Cd w b v (q ++ x)) (hc : ClOk c) (hl : (q ++ x).length ≤ 400) (hx : 0 < x.length) :
  Calls Tryz.prog 211 #[.pointer (some ⟨b, 0, none⟩), .int .i64 (x.length : Int), gV c] w fun e w' => ∃ v', e = .returned (.bool (c.2 == 0)) ∧ Cd w' b v' (if c.2 == 0 then q ++ [(48, c.1)] else q ++ x) ∧ Frm w.heap.size (XR b v) w w' := by
 obtain ⟨ii, hi, hz0, hz1, hz2⟩ := info_parts info_part
 obtain ⟨a, m⟩ := c
 obtain ⟨ao, cap, rfl⟩ := oForm h.own
 have hbl := h.blk.lt
 obtain ⟨W, hW, B, hbw, hs⟩ := one_new w #[.int .i64 (gst m), .int .i64 a] 205
 obtain ⟨r0, r1, _, _, l3⟩ := two_cells B
 have c0 := (h.blk.kept hbw).cell 0
 have z0 := (h.blk.kept hbw).frozen 0
 simp only [List.getElem?_toArray, List.getElem?_cons_zero] at c0
 have hlen : ((q ++ x).length : Int) - (x.length : Int) = (q.length : Int) := by simp
 have g1 : ¬ ((x.length : Int) < 0) := by omega
 have g2 : ¬ ((q.length : Int) < 0) := by omega
 have hwr : IntKind.i64.wrap (q.length : Int) = q.length := by rw [IntKind.wrap_i64]; simp at hl; omega
 have Hown := hI (oBelow h.own hbw)
 have Hblk := hI (h.blk.kept hbw)
 have Hbw := hI hbw
 unfold gV
 simp only
 cases hm : (m == 0) with
 | false =>
  have hg := gst_zero hc (by exact hm)
  simp only at hg
  simp only [Bool.false_eq_true, if_false]
  clear h hbw B
  obtain ⟨N, hN⟩ : ∃ N, (q ++ x).length = N := ⟨_, rfl⟩
  rw [hN] at hlen c0
  go_enter Tryz.func211, Tryz.ntmps211
  go_wp2_with fail
  go_ret
  rw [← hN] at c0
  exact ⟨rfl, ⟨_, Hblk.u, Hown.u⟩, Hbw.u.frm⟩
 | true =>
  obtain rfl : m = 0 := by simpa using hm
  obtain ⟨g, cap', e1, hg, hg'⟩ := oSome Hown.u (by simp; omega)
  obtain ⟨rfl, rfl⟩ : ao = some ⟨g, 0, none⟩ ∧ cap = cap' := by cases e1; exact ⟨rfl, rfl⟩
  clear e1
  have Hown1 := hI (own_take Hown.u)
  have hcap : q.length ≤ cap := by
   obtain ⟨_, h2 | ⟨g', cap', cur, hv, hg, hh, hn, hcap, hsz, htake⟩⟩ := Hown1.u
   ·cases h2.1
   ·cases hv; exact hn
  rw [gst_z0] at r0 hW
  simp only [if_true, gst_z0]
  clear h hbw B hc
  obtain ⟨N, hN⟩ : ∃ N, (q ++ x).length = N := ⟨_, rfl⟩
  rw [hN] at hlen c0
  go_enter Tryz.func211, Tryz.ntmps211
  go_upto_region 5 with fail
  have Hown2 := hI (ownsRow_setCell_below Hown1.u (a := ⟨b, 0, none⟩) (by simp) (.slice (some ⟨g, 0, none⟩) q.length cap))
  have HB2 : Hid (Blk (W.setCell ⟨b, 0, none⟩ (.slice (some ⟨g, 0, none⟩) q.length cap)) b #[.slice (some ⟨g, 0, none⟩) q.length cap] 226) := by
   have := Hblk.u.set 0 (.slice (some ⟨g, 0, none⟩) q.length cap)
   exact this
  have Hnb : Hid (Blk ((W.setCell ⟨b, 0, none⟩ (.slice (some ⟨g, 0, none⟩) q.length cap)).alloc (.cells #[.int .u8 48, .int .i64 a] 197)) (w.heap.size + 1) #[.int .u8 48, .int .i64 a] 197) := by
   have := Blk.new (W.setCell ⟨b, 0, none⟩ (.slice (some ⟨g, 0, none⟩) q.length cap)) #[.int .u8 48, .int .i64 a] 197
   rw [show (W.setCell ⟨b, 0, none⟩ (.slice (some ⟨g, 0, none⟩) q.length cap)).heap.size = w.heap.size + 1 by simp [hs]] at this
   exact this
  have Hne : Hid (some b ≠ (Value.slice (some ⟨g, 0, none⟩) q.length cap).ownBlock) := own_ne' Hown1.u (Nat.lt_succ_self b)
  have hq4 : q.length ≤ 400 := by simp at hl; omega
  go_region_law (refine step_append_lies _ rfl (.tmp 39) (.tmp 43) 163 rfl (b + 1) 197 ii (.agg #[.int .u8 0, .int .i64 0]) 2 16 Tryz.underlying163 hi hz0 hz1 hz2 rfl (by decide) (.slice (some ⟨g, 0, none⟩) q.length cap) q.length _ (by simp [Act.eval]) (by first | exact (Hown2.u.alloc _).drew | exact (Hown2.u.alloc _)) ⟨w.heap.size + 1, 0, none⟩ 1 1 [.int .u8 48, .int .i64 a] (by simp [Act.eval]) rfl (World.news_of_block (by exact Hnb.u)) (fun x hx => by simp at hx; rcases hx with rfl | rfl <;> rfl) (by decide) (by unfold maxLen; omega) (by omega) (by simp <;> omega) (w.heap.size + 2) (by simp [hs]) ?_; intro g2 cap2 w5 hown5 hgr5 hat5 hlt5; have HB5 := hI (Blk.grown (cs := #[.slice (some ⟨g, 0, none⟩) q.length cap]) (T := 226) (b := b) (by exact (HB2.u.alloc _)) hgr5 Hne.u); have y2 := HB5.u.frozen 0; have y3 := HB5.u.cell 0; simp only [List.getElem?_toArray, List.getElem?_cons_zero] at y3; have Hown5 := hI hown5; have Hgr5 := hI hgr5; have Hat5 := hI hat5; clear hown5 hgr5 hat5)
  all_goals
   go_wp2_with fail
   go_ret
   refine ⟨rfl, ⟨_, cd_pushed HB5.u Hown5.u⟩, ?_⟩
   exact (((((Hbw.u.frm).setCell (.inr (.inl rfl)) _).alloc (by simp [hs]) _).drew).grown Hgr5.u (by simp [hs]; omega) (fun k hk => .inr (.inr hk.symm))).setCell (.inr (.inl rfl)) _
theorem Cd.below {w w1 : World} {b : Nat} {v : Value} {ws : List Pt} (h : Cd w b v ws) (hb : Below w.heap.size w w1) : Cd w1 b v ws := ⟨h.blk.kept hb, oBelow h.own hb⟩
def repl (c : Cl) (q x : List Pt) : List Pt := if c.2 == 0 then q ++ [(48, c.1)] else q ++ x
theorem cellsP_at (q : List Pt) (p : Pt) (r : List Pt) : (cellsP (q ++ p :: r))[q.length * 2]? = some (.int .u8 p.1) ∧ (cellsP (q ++ p :: r))[q.length * 2 + 1]? = some (.int .i64 p.2) := by
 rw [cellsP_append, List.getElem?_append_right (by rw [cellsP_length]; omega), List.getElem?_append_right (by rw [cellsP_length]; omega), cellsP_length]
 exact ⟨by simp [cellsP], by rw [show q.length * 2 + 1 - q.length * 2 = 1 by omega]; simp [cellsP]⟩
theorem workOut_no (b : Nat) (v : Value) (ws : List Pt) (o : Int) (w : World) (h : Cd w b v ws) (hl : ws.length ≤ 400) (hn : ∀ q p, ws = q ++ [p] → (p.1 == 48) = false) :
  Calls Tryz.prog 192 #[.pointer (some ⟨b, 0, none⟩), .int .u8 o] w fun e w' => e = .returned (.bool false) ∧ w' = w := by
 obtain ⟨ao, cap, rfl⟩ := oForm h.own
 have c0 := h.blk.cell 0
 simp only [List.getElem?_toArray, List.getElem?_cons_zero] at c0
 rcases List.eq_nil_or_concat ws with rfl | ⟨q, p, rfl⟩
 ·clear h hn
  go_enter Tryz.func192, Tryz.ntmps192
  go_wp2_with fail
  go_ret
  exact ⟨rfl, rfl⟩
 ·rw [List.concat_eq_append] at h hl hn c0
  obtain ⟨s, y⟩ := p
  have hs := hn q (s, y) rfl
  simp only at hs
  obtain ⟨g, cap', e1, hg, hg'⟩ := oSome h.own (by simp)
  obtain ⟨rfl, rfl⟩ : ao = some ⟨g, 0, none⟩ ∧ cap = cap' := by cases e1; exact ⟨rfl, rfl⟩
  clear e1
  have d1 := oCell h.own (j := q.length * 2) (cellsP_at q (s, y) []).1
  have d2 := oCell h.own (j := q.length * 2 + 1) (cellsP_at q (s, y) []).2
  rw [show (q ++ [(s, y)]).length = q.length + 1 by simp] at c0
  have hq : q.length ≤ 399 := by simp at hl; omega
  have e2 : ((q.length + 1 : Nat) : Int) = (q.length : Int) + 1 := by simp
  have g1 : ¬ ((q.length : Int) + 1 < 1) := by omega
  clear h hn hl
  go_enter Tryz.func192, Tryz.ntmps192
  go_wp2_with fail
  go_ret
  exact ⟨rfl, rfl⟩
theorem workOut_neg (b : Nat) (v : Value) (q : List Pt) (y : Int) (w : World) (h : Cd w b v (q ++ [(48, y)])) (hl : (q ++ [(48, y)]).length ≤ 400) (hy : inR y = true) :
  Calls Tryz.prog 192 #[.pointer (some ⟨b, 0, none⟩), .int .u8 126] w fun e w' => ∃ v', e = .returned (.bool ((don 45 (0, 0) (y, 0)).2 == 0)) ∧ Cd w' b v' (repl (don 45 (0, 0) (y, 0)) q [(48, y)]) ∧ Frm w.heap.size (XR b v) w w' := by
 obtain ⟨ao, cap, rfl⟩ := oForm h.own
 have c0 := h.blk.cell 0
 have hbl := h.blk.lt
 simp only [List.getElem?_toArray, List.getElem?_cons_zero] at c0
 obtain ⟨g, cap', e1, hg, hg'⟩ := oSome h.own (by simp)
 obtain ⟨rfl, rfl⟩ : ao = some ⟨g, 0, none⟩ ∧ cap = cap' := by cases e1; exact ⟨rfl, rfl⟩
 clear e1
 have d1 := oCell h.own (j := q.length * 2) (cellsP_at q (48, y) []).1
 have d2 := oCell h.own (j := q.length * 2 + 1) (cellsP_at q (48, y) []).2
 have hlen : (q ++ [((48 : Int), y)]).length = q.length + 1 := by simp
 rw [hlen] at c0
 have hq : q.length ≤ 399 := by simp at hl; omega
 have e2 : ((q.length + 1 : Nat) : Int) = (q.length : Int) + 1 := by simp
 have g1 : ¬ ((q.length : Int) + 1 < 1) := by omega
 have H := hI h
 have Hd : Hid (∀ wx, Calls Tryz.prog 177 #[.agg #[.int .i64 0, .int .i64 y]] wx fun e w' => e = .returned (gV (don 45 (0, 0) (y, 0))) ∧ Below wx.heap.size wx w') := fun wx => opp_any (y, 0) wx (.inl ⟨rfl, hy⟩)
 have Hok := hI (don_ok (o := 45) (x := (0, 0)) (y := (y, 0)) (.inl ⟨rfl, by decide⟩) (.inl ⟨rfl, hy⟩))
 obtain ⟨d, hd⟩ : ∃ d, don 45 (0, 0) (y, 0) = d := ⟨_, rfl⟩
 rw [hd] at Hd Hok ⊢
 have Hl := hI hl
 clear h hl hd hy
 go_enter Tryz.func192, Tryz.ntmps192
 go_wp2_with fail
 refine (of_any y _).mono ?_
 rintro e w1 ⟨rfl, hw1⟩
 obtain ⟨W1, hW1, B1, hbw1, hs1⟩ := one_new w1 #[.int .i64 0, .int .i64 0] 205
 have hw0 := hw1.size
 have Hb1 := hI (hw1.then hbw1)
 have HB1 := hI ((B1.set 0 (.int .i64 0)).set 1 (.int .i64 y))
 obtain ⟨r0, r1, z0, z1, l1⟩ := two_cells B1
 clear B1 hbw1 hw1 c0 d1 d2
 go_wp2_with fail
 refine (Hd.u _).mono ?_
 rintro e w2 ⟨rfl, hw2⟩
 obtain ⟨d1, d2⟩ := d
 obtain ⟨W2, hW2, B2, hbw2, hs2⟩ := one_new w2 #[.int .i64 0, .int .i64 0] 205
 have hw3 := hw2.size
 simp at hw3
 have Hb2 : Hid (Below w.heap.size w W2) := ((Hb1.u.setCell (by simp; omega) _).setCell (by simp; omega) _).then' (by simp; omega) (hw2.then hbw2)
 clear r0 r1 z0 z1 l1 hw2
 obtain ⟨r0, r1, z0, z1, l1⟩ := two_cells B2
 clear B2 hbw2
 unfold gV
 simp only
 obtain ⟨dd, hdd⟩ : ∃ dd, gst d2 = dd := ⟨_, rfl⟩
 rw [hdd]
 go_wp2_with fail
 have Hb3 : Hid (Below w.heap.size w ((W2.setCell ⟨w2.heap.size, 0, none⟩ (.int .i64 dd)).setCell ⟨w2.heap.size, 1, none⟩ (.int .i64 d1))) := (Hb2.u.setCell (by simp; omega) _).setCell (by simp; omega) _
 have hcall := replace_any b _ q [(48, y)] (d1, d2) _ (H.u.below Hb3.u) Hok.u Hl.u (by simp)
 unfold gV at hcall
 simp only [hdd] at hcall
 refine (hcall).mono ?_
 rintro e w4 ⟨v', rfl, hc4, hb4⟩
 have Hc4 : Hid (Cd w4 b v' (repl (d1, d2) q [(48, y)])) := hc4
 have Hb4 := hI ((Hb3.u.frm (X := XR b (.slice (some ⟨g, 0, none⟩) (q ++ [((48 : Int), y)]).length cap))).trans (hb4.mono Hb3.u.size (fun _ _ h => h)))
 clear hc4 hb4 hcall
 go_wp2_with fail
 go_ret
 exact ⟨rfl, ⟨v', Hc4.u⟩, Hb4.u⟩
theorem workOut_bin (b : Nat) (v : Value) (q : List Pt) (o x y : Int) (w : World) (h : Cd w b v (q ++ [(48, x), (48, y)])) (hl : (q ++ [(48, x), (48, y)]).length ≤ 400) (hx : inR x = true) (hy : inR y = true) (ho : (o == 126) = false) :
  Calls Tryz.prog 192 #[.pointer (some ⟨b, 0, none⟩), .int .u8 o] w fun e w' => ∃ v', e = .returned (.bool ((don o (x, 0) (y, 0)).2 == 0)) ∧ Cd w' b v' (repl (don o (x, 0) (y, 0)) q [(48, x), (48, y)]) ∧ Frm w.heap.size (XR b v) w w' := by
 obtain ⟨ao, cap, rfl⟩ := oForm h.own
 have c0 := h.blk.cell 0
 have hbl := h.blk.lt
 simp only [List.getElem?_toArray, List.getElem?_cons_zero] at c0
 obtain ⟨g, cap', e1, hg, hg'⟩ := oSome h.own (by simp)
 obtain ⟨rfl, rfl⟩ : ao = some ⟨g, 0, none⟩ ∧ cap = cap' := by cases e1; exact ⟨rfl, rfl⟩
 clear e1
 have d1 := oCell h.own (j := q.length * 2) (cellsP_at q (48, x) [(48, y)]).1
 have d2 := oCell h.own (j := q.length * 2 + 1) (cellsP_at q (48, x) [(48, y)]).2
 have happ : q ++ [((48 : Int), x), (48, y)] = (q ++ [(48, x)]) ++ [(48, y)] := by simp
 have hc1 := cellsP_at (q ++ [(48, x)]) (48, y) []
 rw [← happ, show (q ++ [((48 : Int), x)]).length = q.length + 1 by simp] at hc1
 have d3 := oCell h.own (j := (q.length + 1) * 2) hc1.1
 have d4 := oCell h.own (j := (q.length + 1) * 2 + 1) hc1.2
 have hlen : (q ++ [((48 : Int), x), (48, y)]).length = q.length + 1 + 1 := by simp
 rw [hlen] at c0
 have hq : q.length ≤ 398 := by simp at hl; omega
 have H := hI h
 have Hd : Hid (∀ wx, Calls Tryz.prog 178 #[.int .u8 o, .agg #[.int .i64 0, .int .i64 x], .agg #[.int .i64 0, .int .i64 y]] wx fun e w' => e = .returned (gV (don o (x, 0) (y, 0))) ∧ Below wx.heap.size wx w') := fun wx => join_any o (x, 0) (y, 0) wx (.inl ⟨rfl, hx⟩) (.inl ⟨rfl, hy⟩)
 have Hok := hI (don_ok (o := o) (x := (x, 0)) (y := (y, 0)) (.inl ⟨rfl, hx⟩) (.inl ⟨rfl, hy⟩))
 obtain ⟨d, hd⟩ : ∃ d, don o (x, 0) (y, 0) = d := ⟨_, rfl⟩
 rw [hd] at Hd Hok ⊢
 have Hl := hI hl
 clear h hl hd hx hy happ hc1
 go_enter Tryz.func192, Tryz.ntmps192
 go_wp2_with fail
 refine (of_any y _).mono ?_
 rintro e w1 ⟨rfl, hw1⟩
 obtain ⟨W1, hW1, B1, hbw1, hs1⟩ := one_new w1 #[.int .i64 0, .int .i64 0] 205
 have hw0 := hw1.size
 have Hb1 := hI (hw1.then hbw1)
 have HB1 := hI ((B1.set 0 (.int .i64 0)).set 1 (.int .i64 y))
 obtain ⟨r0, r1, z0, z1, l1⟩ := two_cells B1
 have c0' := (H.u.below Hb1.u).blk.cell 0
 simp only [List.getElem?_toArray, List.getElem?_cons_zero, hlen] at c0'
 have d1' := (Hb1.u.cell (p := ⟨g, q.length * 2, none⟩) hg').trans d1
 have d2' := (Hb1.u.cell (p := ⟨g, q.length * 2 + 1, none⟩) hg').trans d2
 have n1 : ¬ b = w1.heap.size := by omega
 have n2 : ¬ g = w1.heap.size := by omega
 clear B1 hbw1 hw1 c0 d1 d2 d3 d4
 go_wp2_with fail
 have Hb1' : Hid (Below w.heap.size w ((W1.setCell ⟨w1.heap.size, 0, none⟩ (.int .i64 0)).setCell ⟨w1.heap.size, 1, none⟩ (.int .i64 y))) := (Hb1.u.setCell (by simp; omega) _).setCell (by simp; omega) _
 refine (of_any x _).mono ?_
 rintro e w2 ⟨rfl, hw2⟩
 obtain ⟨W2, hW2, B2, hbw2, hs2⟩ := one_new w2 #[.int .i64 0, .int .i64 0] 205
 have hw3 := hw2.size
 simp at hw3
 have Hb2 : Hid (Below w.heap.size w W2) := Hb1'.u.then' (by simp; omega) (hw2.then hbw2)
 have HY : Hid (Blk W2 w1.heap.size #[.int .i64 0, .int .i64 y] 205) := (HB1.u.kept hw2).kept hbw2
 clear r0 r1 z0 z1 l1 hw2 c0' d1' d2' n1 n2
 obtain ⟨r0, r1, z0, z1, l1⟩ := two_cells B2
 obtain ⟨y0, y1, _, _, l2⟩ := two_cells HY.u
 have n1 : ¬ w1.heap.size = w2.heap.size := by omega
 have n2 : ¬ w2.heap.size = w1.heap.size := by omega
 clear B2 hbw2
 go_wp2_with fail
 have Hb2' : Hid (Below w.heap.size w ((W2.setCell ⟨w2.heap.size, 0, none⟩ (.int .i64 0)).setCell ⟨w2.heap.size, 1, none⟩ (.int .i64 x))) := (Hb2.u.setCell (by simp; omega) _).setCell (by simp; omega) _
 refine (Hd.u _).mono ?_
 rintro e w3 ⟨rfl, hw4⟩
 obtain ⟨d1, d2⟩ := d
 obtain ⟨W3, hW3, B3, hbw3, hs3⟩ := one_new w3 #[.int .i64 0, .int .i64 0] 205
 have hw5 := hw4.size
 simp at hw5
 have Hb3 : Hid (Below w.heap.size w W3) := Hb2'.u.then' (by simp; omega) (hw4.then hbw3)
 clear r0 r1 z0 z1 l1 y0 y1 l2 hw4 n1 n2
 obtain ⟨r0, r1, z0, z1, l1⟩ := two_cells B3
 clear B3 hbw3
 unfold gV
 simp only
 obtain ⟨dd, hdd⟩ : ∃ dd, gst d2 = dd := ⟨_, rfl⟩
 rw [hdd]
 go_wp2_with fail
 have Hb3' : Hid (Below w.heap.size w ((W3.setCell ⟨w3.heap.size, 0, none⟩ (.int .i64 dd)).setCell ⟨w3.heap.size, 1, none⟩ (.int .i64 d1))) := (Hb3.u.setCell (by simp; omega) _).setCell (by simp; omega) _
 have hcall := replace_any b _ q [(48, x), (48, y)] (d1, d2) _ (H.u.below Hb3'.u) Hok.u Hl.u (by simp)
 unfold gV at hcall
 simp only [hdd] at hcall
 refine (hcall).mono ?_
 rintro e w4 ⟨v', rfl, hc4, hb4⟩
 have Hc4 : Hid (Cd w4 b v' (repl (d1, d2) q [(48, x), (48, y)])) := hc4
 have Hb4 := hI ((Hb3'.u.frm (X := XR b (.slice (some ⟨g, 0, none⟩) (q ++ [((48 : Int), x), (48, y)]).length cap))).trans (hb4.mono Hb3'.u.size (fun _ _ h => h)))
 clear hc4 hb4 hcall
 go_wp2_with fail
 go_ret
 exact ⟨rfl, ⟨v', Hc4.u⟩, Hb4.u⟩
end Go.Proofs.YtdchbenfccofpaaGreatDoor
