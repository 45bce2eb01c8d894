/- The law's pair of books: posted. -/
import Derived.Test.YtpcdkhmahbecaaaGreatDoorBkS
namespace Go.Proofs.YtpcdkhmahbecaaaGreatDoor
open Go.RowKit Db

theorem ownsRow_block_lt {w : World} {base : Nat} {e : TypeId} {size : Nat} {v : Value} {n : Nat} {xs : List Value} (h : w.ownsRow base e size v n xs) : ∀ k, v.ownBlock = some k → k < w.heap.size := by
  intro k hk
  obtain ⟨_, cs, fz, hg⟩ := ownsRow_tg h k hk
  exact (Array.getElem?_eq_some_iff.1 hg).1
theorem ownsRow_only {w w' : World} {base g : Nat} {e : TypeId} {size : Nat} {v : Value} {n : Nat} {xs : List Value} (h : w.ownsRow base e size v n xs) (hf : Frm w.heap.size (fun k => k = g) w w') (hg : ∀ k, v.ownBlock = some k → k ≠ g) : w'.ownsRow base e size v n xs :=
  ownsRow_frm h hf (fun k hk => ⟨ownsRow_block_lt h k hk, hg k hk⟩)
theorem tg_ne {w : World} {k g : Nat} {T U : TypeId} (h : Tg w k T) (hg : Tg w g U) (hne : T ≠ U) : k ≠ g := by
  rintro rfl
  obtain ⟨cs, fz, h1⟩ := h
  obtain ⟨ds, gz, h2⟩ := hg
  rw [h1] at h2
  simp at h2
  exact hne h2.2.1
/-- The program's book, where a list of lines that is none of its own is written over. -/
theorem LedAt.only {w w' : World} {B p g : Nat} {va vt : Value} {tv : List (Tn × Value)} {s : Bk} (h : LedAt w B p va vt tv s) (hf : Frm w.heap.size (fun k => k = g) w w') (hg : Tg w g 52) (hn : ∀ x ∈ tv, ∀ k, x.2.ownBlock = some k → k ≠ g) : LedAt w' B p va vt tv s :=
  ⟨h.blk.frm hf h.blk.lt (tg_ne h.blk.tg hg (by decide)), h.lo, ownsRow_only h.acs hf (fun k hk => tg_ne (ownsRow_tg h.acs k hk).2 hg (by decide)),
   ⟨ownsRow_only h.txs.own hf (fun k hk => tg_ne (ownsRow_tg h.txs.own k hk).2 hg (by decide)), fun x hx => ownsRow_only (h.txs.lns x hx) hf (hn x hx)⟩, h.jr, h.good⟩
theorem RefAt.only {w w' : World} {B p g : Nat} {vp vc vt : Value} {tv : List (Tn × Value)} {s : Bk} (h : RefAt w B p vp vc vt tv s) (hf : Frm w.heap.size (fun k => k = g) w w') (hg : Tg w g 52) (hn : ∀ x ∈ tv, ∀ k, x.2.ownBlock = some k → k ≠ g) : RefAt w' B p vp vc vt tv s :=
  ⟨h.blk.frm hf h.blk.lt (tg_ne h.blk.tg hg (by decide)), h.lo, ownsRow_only h.par hf (fun k hk => tg_ne (ownsRow_tg h.par k hk).2 hg (by decide)), ownsRow_only h.clo hf (fun k hk => tg_ne (ownsRow_tg h.clo k hk).2 hg (by decide)),
   ⟨ownsRow_only h.txs.own hf (fun k hk => tg_ne (ownsRow_tg h.txs.own k hk).2 hg (by decide)), fun x hx => ownsRow_only (h.txs.lns x hx) hf (hn x hx)⟩, h.jr, h.good⟩
theorem LinesAt.only {w w' : World} {g : Nat} {v : Value} {ls : List Ln} (h : LinesAt w v ls) (hf : Frm w.heap.size (fun k => k = g) w w') (hg : ls = [] ∨ ∀ k, v.ownBlock = some k → k ≠ g) : LinesAt w' v ls := by
  obtain ⟨ao, cap, rfl, hr⟩ := h
  refine ⟨ao, cap, rfl, ?_⟩
  rcases hg with hg | hg
  · exact .inl hg
  rcases hr with hr | ⟨b, off, rfl, hlt, hc⟩
  · exact .inl hr
  · have hb := hf.block b hlt (hg b rfl)
    refine .inr ⟨b, off, rfl, Nat.lt_of_lt_of_le hlt hf.size, fun i l hl => ?_⟩
    have h1 : ∀ j, w'.cell? ⟨b, j, none⟩ = w.cell? ⟨b, j, none⟩ := fun j => World.cell?_of_block (a := ⟨b, j, none⟩) hb
    rw [h1, h1]
    exact hc i l hl
/-- Lines that lie below B are kept by what the books do. -/
theorem LinesAt.frT {w w' : World} {B : Nat} {Ts : List TypeId} {v : Value} {ls : List Ln} (h : LinesAt w v ls) (hf : FrT B Ts w w') (hg : ls = [] ∨ ∀ k, v.ownBlock = some k → k < B) : LinesAt w' v ls := by
  obtain ⟨ao, cap, rfl, hr⟩ := h
  refine ⟨ao, cap, rfl, ?_⟩
  rcases hg with hg | hg
  · exact .inl hg
  rcases hr with hr | ⟨b, off, rfl, hlt, hc⟩
  · exact .inl hr
  · have hb := hf.block b hlt (fun h => by have := hg b rfl; omega)
    refine .inr ⟨b, off, rfl, Nat.lt_of_lt_of_le hlt hf.size, fun i l hl => ?_⟩
    have h1 : ∀ j, w'.cell? ⟨b, j, none⟩ = w.cell? ⟨b, j, none⟩ := fun j => World.cell?_of_block (a := ⟨b, j, none⟩) hb
    rw [h1, h1]
    exact hc i l hl
theorem frm_frT {w w' : World} {B g : Nat} {Ts : List TypeId} {T : TypeId} (h : Frm w.heap.size (fun k => k = g) w w') (hB : B ≤ g) (hg : Tg w g T) (hT : T ∈ Ts) : FrT B Ts w w' :=
  ⟨h.os, h.tape, h.output, h.size, fun k hk hx => h.block k hk (by rintro rfl; exact hx hB T hT hg)⟩

def tLaw : List TypeId := 52 :: tAll

set_option maxRecDepth 100000 in
set_option maxHeartbeats 4000000 in
theorem posted_any (B q p c : Nat) (s : Bk) (kd bk a b : Int) (ao : Option Addr) (cap : Nat) (ls : List Ln) (t : ByteArray) (w : World) (h : PairAt w B q p c s) (hl : LinesAt w (.slice ao ls.length cap) ls) (hlo : ls = [] ∨ ∀ k, (Value.slice ao ls.length cap).ownBlock = some k → k < B) (hn : ls.length ≤ 8796093022000) :
    Calls Tryz.prog 38 #[.pointer (some ⟨q, 0, none⟩), .agg #[.int .i64 kd, .int .i64 bk, .int .i64 a, .int .i64 b, .slice ao ls.length cap, .string t]] w fun e w' => e = .returned (.bool true) ∧ PairAt w' B q p c (pst s a b ls).2 ∧ FrT B tLaw w w' := by
  obtain ⟨bx, hbx⟩ : ∃ bx, w.heap.size = bx := ⟨_, rfl⟩
  obtain ⟨W, hW⟩ : ∃ W, w.alloc (.cells #[.int .i64 kd, .int .i64 bk, .int .i64 a, .int .i64 b, .slice ao ls.length cap, .string t] 33) = W := ⟨_, rfl⟩
  have HX : Hid (Blk W bx #[.int .i64 kd, .int .i64 bk, .int .i64 a, .int .i64 b, .slice ao ls.length cap, .string t] 33) := by rw [← hW, ← hbx]; exact Blk.new _ _ _
  have Hb0 : Hid (Below w.heap.size w W) := by rw [← hW]; exact (Below.refl _ _).alloc (Nat.le_refl _) _
  have hWs : W.heap.size = bx + 1 := by rw [← hW, ← hbx]; simp
  obtain ⟨hq, ⟨va, vt, tv, hled⟩, ⟨vp, vc, vu, tu, href⟩⟩ := h
  have Htv : Hid (∀ x ∈ tv, ∀ k, x.2.ownBlock = some k → k < bx) := fun x hx k hk => by rw [← hbx]; exact ownsRow_block_lt (hled.txs.lns x hx) k hk
  have Htu : Hid (∀ x ∈ tu, ∀ k, x.2.ownBlock = some k → k < bx) := fun x hx k hk => by rw [← hbx]; exact ownsRow_block_lt (href.txs.lns x hx) k hk
  have hBx : B ≤ bx := by have h1 := hled.lo; have h2 := hled.blk.lt; omega
  have HL0 := hide (hled.kept (unhide Hb0))
  have HR0 := hide (href.kept (unhide Hb0))
  have HQ0 := hide (hq.kept (unhide Hb0))
  have Hl0 := hide (hl.kept (unhide Hb0))
  have Hlo := hide hlo
  obtain ⟨⟨x, s'⟩, hr⟩ : ∃ r, pst s a b ls = r := ⟨_, rfl⟩
  have Hpp : Hid (∀ (wx : World) (va vt : Value) (tv : List (Tn × Value)) (g : Nat), LedAt wx B p va vt tv s → LinesAt wx (.slice (some ⟨g, 0, none⟩) ls.length (ls.length + 2)) ls → Calls Tryz.prog 66 #[.pointer (some ⟨p, 0, none⟩), .int .i64 a, .int .i64 b, .slice (some ⟨g, 0, none⟩) ls.length (ls.length + 2)] wx fun e w' => e = .returned (.int .i64 x) ∧ LedN wx tv w' B p s' ∧ FrT B tP wx w') := by
    intro wx va vt tv g h1 h2
    have := dayPost_any B p s a b _ ls wx va vt tv h1 h2
    rw [hr] at this
    exact this
  have Hrp : Hid (∀ (wx : World), Rfd wx B c s → LinesAt wx (.slice ao ls.length cap) ls → Calls Tryz.prog 9 #[.pointer (some ⟨c, 0, none⟩), .int .i64 a, .int .i64 b, .slice ao ls.length cap] wx fun e w' => e = .returned (.int .i64 x) ∧ Rfd w' B c s' ∧ FrT B tR wx w') := by
    intro wx h1 h2
    have := refPost_any B c s a b _ ls wx h1 h2
    rw [hr] at this
    exact this
  rw [hr]
  simp only
  have x4 := (unhide HX).cell 4
  simp only [List.getElem?_toArray, List.getElem?_cons_zero, List.getElem?_cons_succ] at x4
  clear hled href hq hl hlo hr
  go_enter Tryz.func38, Tryz.ntmps38
  go_wp2_with fail
  try rw [hW]
  try rw [hbx]
  clear hW hbx
  refine (handed_any _ ls W (unhide Hl0) hn).mono ?_
  rintro e w1 ⟨rfl, hg1, hb1⟩
  obtain ⟨g, hg⟩ : ∃ g, W.heap.size = g := ⟨_, rfl⟩
  rw [hg] at hg1 ⊢
  have hgx : bx < g := by omega
  have Hg1 := hide hg1
  have HB1 := hide hb1
  have HL1 := hide ((unhide HL0).kept hb1)
  have HR1 := hide ((unhide HR0).kept hb1)
  have HQ1 := hide ((unhide HQ0).kept hb1)
  have Hl1 := hide ((unhide Hl0).kept hb1)
  have HX1 := hide ((unhide HX).kept hb1)
  have hg1l := hg1.lt
  have c0 := (unhide HQ1).cell 0
  have x2 := (unhide HX1).cell 2
  have x3 := (unhide HX1).cell 3
  simp only [List.getElem?_toArray, List.getElem?_cons_zero, List.getElem?_cons_succ] at c0 x2 x3
  clear hg1 hb1 x4 hg
  go_upto_region 2 with fail
  go_region_held3 (fun w' => w'.cell? ⟨q, 0, none⟩ = some (.pointer (some ⟨p, 0, none⟩)) ∧ w'.cell? ⟨bx, 2, none⟩ = some (.int .i64 a) ∧ w'.cell? ⟨bx, 3, none⟩ = some (.int .i64 b)) (first | go_keep | exact ⟨k1, k2, k3⟩) (first | (go_at_call 66; refine (unhide Hpp _ _ _ _ _ (by exact (unhide HL1).kept (below_drew _)) (by exact (LinesAt.of_handed (unhide Hg1)).kept (below_drew _))).mono ?_; rintro e w2 ⟨rfl, h1, h2⟩; have h2u := h2.undrew; have k1 := ((unhide HQ1).frT h2u (by decide)).cell 0; have k2 := ((unhide HX1).frT h2u (by decide)).cell 2; have k3 := ((unhide HX1).frT h2u (by decide)).cell 3; simp only [List.getElem?_toArray, List.getElem?_cons_zero, List.getElem?_cons_succ] at k1 k2 k3))
  have hu2 := h2.undrew
  obtain ⟨va2, vt2, tv2, hled2, hnew⟩ := h1
  have HL2 := hide hled2
  have Hnew : Hid (∀ x ∈ tv2, ∀ k, x.2.ownBlock = some k → k ≠ g) := by
    intro x hx k hk
    rcases hnew x hx with hx | hx
    · have := unhide Htv x hx k hk; omega
    · have := hx k hk
      have h5 : w1.drew.heap.size = w1.heap.size := rfl
      omega
  have HF2 := hide hu2
  have HR2 := hide ((unhide HR1).frT hu2 (by decide) (by decide))
  have HQ2 := hide ((unhide HQ1).frT hu2 (by decide))
  have HX2 := hide ((unhide HX1).frT hu2 (by decide))
  have Hg2 := hide ((unhide Hg1).frT hu2 (by decide))
  have Hl2 := hide ((unhide Hl1).frT hu2 (unhide Hlo))
  have x4 := (unhide HX2).cell 4
  simp only [List.getElem?_toArray, List.getElem?_cons_zero, List.getElem?_cons_succ] at x4
  clear h2 h2u hu2 hled2 hnew k1 k2 k3 c0 x2 x3
  go_wp2_with fail
  refine (still_any g _ ls w2 (unhide Hg2) (unhide Hl2) hn).mono ?_
  rintro e w3 ⟨rfl, n3, hw3⟩
  have hb3 : Below w2.heap.size w2 w3 := by rw [hw3]; exact (Below.refl _ _).drewN n3
  have HL3 := hide ((unhide HL2).kept hb3)
  have HR3 := hide ((unhide HR2).kept hb3)
  have HQ3 := hide ((unhide HQ2).kept hb3)
  have HX3 := hide ((unhide HX2).kept hb3)
  have Hg3 := hide ((unhide Hg2).kept hb3)
  have Hl3 := hide ((unhide Hl2).kept hb3)
  have HF3 := hide ((unhide HF2).then hb3)
  clear hw3 hb3 x4
  go_wp2_with fail
  refine (over_any g ls.length (hcells ls) w3 (unhide Hg3) (hcells_size ls) hn).mono ?_
  rintro e w4 ⟨rfl, hf4⟩
  have HL4 := hide ((unhide HL3).only hf4 (unhide Hg3).tg (unhide Hnew))
  have HR4 := hide ((unhide HR3).only hf4 (unhide Hg3).tg (fun x hx k hk => by have := unhide Htu x hx k hk; omega))
  have HQ4 := hide ((unhide HQ3).frm hf4 (unhide HQ3).lt (tg_ne (unhide HQ3).tg (unhide Hg3).tg (by decide)))
  have HX4 := hide ((unhide HX3).frm hf4 (unhide HX3).lt (tg_ne (unhide HX3).tg (unhide Hg3).tg (by decide)))
  have Hl4 := hide ((unhide Hl3).only hf4 ((unhide Hlo).imp id (fun hh k hk => by have := hh k hk; omega)))
  have HF4 : Hid (FrT B tLaw w w4) := (((FrT.of_below (unhide Hb0)).then (unhide HB1)).trans ((unhide HF3).mono (by simp [tLaw, tAll]; intros; simp [*]))).trans (frm_frT hf4 (by omega) (unhide Hg3).tg (by simp [tLaw]))
  have c1 := (unhide HQ4).cell 1
  have x2 := (unhide HX4).cell 2
  have x3 := (unhide HX4).cell 3
  have x4 := (unhide HX4).cell 4
  simp only [List.getElem?_toArray, List.getElem?_cons_zero, List.getElem?_cons_succ] at c1 x2 x3 x4
  clear hf4
  go_upto_region 5 with fail
  go_region_held3 (fun w' => w'.cell? ⟨q, 1, none⟩ = some (.pointer (some ⟨c, 0, none⟩)) ∧ w'.cell? ⟨bx, 2, none⟩ = some (.int .i64 a) ∧ w'.cell? ⟨bx, 3, none⟩ = some (.int .i64 b) ∧ w'.cell? ⟨bx, 4, none⟩ = some (.slice ao ls.length cap)) (first | go_keep | exact ⟨k1, k2, k3, k4⟩) (first | (go_at_call 9; refine (unhide Hrp _ (by exact Rfd.drew ⟨_, _, _, _, unhide HR4⟩) (by exact (unhide Hl4).kept (below_drew _))).mono ?_; rintro e w5 ⟨rfl, h1, h2⟩; have h2u := h2.undrew; have k1 := ((unhide HQ4).frT h2u (by decide)).cell 1; have k2 := ((unhide HX4).frT h2u (by decide)).cell 2; have k3 := ((unhide HX4).frT h2u (by decide)).cell 3; have k4 := ((unhide HX4).frT h2u (by decide)).cell 4; simp only [List.getElem?_toArray, List.getElem?_cons_zero, List.getElem?_cons_succ] at k1 k2 k3 k4))
  have HF : Hid (PairAt w5 B q p c s' ∧ FrT B tLaw w w5) := ⟨⟨(unhide HQ4).frT h2.undrew (by decide), Led.frT ⟨_, _, _, unhide HL4⟩ h2.undrew, h1⟩, (unhide HF4).trans (h2.undrew.mono (by simp [tLaw, tAll]; intros; simp [*]))⟩
  have e1 : (x == x) = true := by simp
  clear h1 h2 h2u k1 k2 k3 k4 c1 x2 x3 x4
  go_wp2_with fail
  go_ret
  exact ⟨rfl, (unhide HF).1, (unhide HF).2⟩

end Go.Proofs.YtpcdkhmahbecaaaGreatDoor
