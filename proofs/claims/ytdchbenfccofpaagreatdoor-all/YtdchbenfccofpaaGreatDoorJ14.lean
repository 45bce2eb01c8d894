/- Own texts of the theorem in YtdchbenfccofpaaGreatDoorWAlY, part 14. -/
import Derived.Test.YtdchbenfccofpaaGreatDoorJ13
import Derived.Deep.RegionHeld3
import Derived.Test.YtdchbenfccofpaaGreatDoorJ08
set_option maxRecDepth 100000
set_option maxHeartbeats 4000000
namespace Go.Proofs.YtdchbenfccofpaaGreatDoor
open Go.RowKit Db
structure Dg (m : Nat) (l ds l' : List UInt8) : Prop where
 eq : l = ds ++ l'
 dig : ∀ c ∈ ds, digB c.toNat = true
 le : ds.length ≤ m
 stop : ds.length = m ∨ digB (hd l') = false
theorem valGo_snoc (l : List UInt8) (c : UInt8) : ∀ n, valGo n (l ++ [c]) = 10 * valGo n l + ((c.toNat : Int) - 48) := by
 induction l with
 | nil => intro n; rfl
 | cons x t ih => intro n; exact ih _
theorem val_snoc (l : List UInt8) (c : UInt8) : val (l ++ [c]) = 10 * val l + ((c.toNat : Int) - 48) := valGo_snoc l c 0
theorem val_lt (l : List UInt8) (h : ∀ c ∈ l, digB c.toNat = true) : val l < 10 ^ l.length := by
 have key : ∀ (l : List UInt8), (∀ c ∈ l, digB c.toNat = true) → ∀ n k : Int, 0 ≤ n → n < k → valGo n l < k * 10 ^ l.length := by
  intro l
  induction l with
  | nil => intro _ n k _ h; simpa [valGo] using h
  | cons c r ih =>
   intro hd n k h0 h
   have hc := hd c (by simp)
   simp [digB] at hc
   have := ih (fun x hx => hd x (by simp [hx])) (10 * n + ((c.toNat : Int) - 48)) (10 * k) (by omega) (by omega)
   have e : (10 * k) * 10 ^ r.length = k * 10 ^ (c :: r).length := by
    rw [List.length_cons, Int.pow_succ]
    rw [Int.mul_comm 10 k, Int.mul_assoc, Int.mul_comm 10]
   rw [← e]
   exact this
 have := key l h 0 1 (by omega) (by omega)
 rw [Int.one_mul] at this
 exact this
theorem pow_le17 (n : Nat) (h : n ≤ 17) : (10 : Int) ^ n ≤ 100000000000000000 := by
 have : ∀ k : Nat, k ≤ 17 → (10 : Int) ^ k ≤ 10 ^ 17 := by
   intro k hk
   obtain ⟨d, hd⟩ := Nat.le.dest hk
   rw [← hd, Int.pow_add]
   have h1 : (1 : Int) ≤ 10 ^ d := by
     clear hd hk
     induction d with
     | zero => simp
     | succ d ih => rw [Int.pow_succ]; omega
   have h2 : (0 : Int) ≤ 10 ^ k := by
     clear hd hk h1
     induction k with
     | zero => simp
     | succ k ih => rw [Int.pow_succ]; omega
   calc (10 : Int) ^ k = 10 ^ k * 1 := by rw [Int.mul_one]
     _ ≤ 10 ^ k * 10 ^ d := Int.mul_le_mul_of_nonneg_left h1 h2
 exact this n h
theorem dg_bound (l : List UInt8) (h : ∀ c ∈ l, digB c.toNat = true) (hl : l.length ≤ 17) : 0 ≤ val l ∧ val l ≤ 99999999999999999 := by
 have h1 := val_pos l h
 have h2 := val_lt l h
 have h3 := pow_le17 l.length hl
 omega
theorem digits_any (b : Nat) (t : ByteArray) (p : Nat) (v : Value) (ps : List Pt) (m : Nat) (w : World) (h : Rd w b t p v ps) (hm : m ≤ 18) :
  Calls Tryz.prog 214 #[.pointer (some ⟨b, 0, none⟩), .int .i64 (m : Int)] w fun e w' => ∃ ds p', e = .returned (.tuple #[.int .i64 (val ds), .bool (decide (0 < ds.length))]) ∧
   Dg m ((L t).drop p) ds ((L t).drop p') ∧ p' = p + ds.length ∧ RdR b t v w w' p' v ps := by
 have H := hI h
 have hsz := h.sz
 clear h
 go_enter Tryz.func214, Tryz.ntmps214
 go_wp2_with fail
 go_loopg [6, 7] (t.size - p) (fun mm n c wr => ∃ ds k, k = p + ds.length ∧ k ≤ t.size ∧ mm = t.size - k ∧ n = .int .i64 (val ds) ∧ c = .int .i64 (ds.length : Int) ∧ ds.length ≤ m ∧ Hid (RdR b t v w wr k v ps) ∧ Hid ((L t).drop p = ds ++ (L t).drop k) ∧ Hid (∀ c ∈ ds, digB c.toNat = true))
 case atStart => exact ⟨[], p, rfl, H.u.le, rfl, rfl, rfl, Nat.zero_le _, RdR.refl H.u, rfl, by intro c hc; cases hc⟩
 case round =>
  obtain ⟨ds, k, hk, hkz, rfl, rfl, rfl, hdm, Hr, Hx, Hd⟩ := hrel
  have c0 := Hr.u.rd.c0
  have c1 := Hr.u.rd.c1
  have z1 := Hr.u.rd.z1
  have Hk := hI hk
  clear hk
  by_cases hlm : ds.length < m
  ·have d0 : decide ((ds.length : Int) < (m : Int)) = true := by simp; omega
   by_cases hlt : k < t.size
   ·have d1 : decide ((k : Int) < (t.size : Int)) = true := by simp; omega
    by_cases hdig : digB (t[k].toNat : Int) = true
    ·have hdd := hdig
     simp [digB] at hdd
     obtain ⟨hd1, hd2⟩ := hdd
     obtain ⟨hv0, hv1⟩ := dg_bound ds Hd.u (by omega)
     have Hdig := hI hdig
     clear hdig
     go_wp2_with fail
     go_quiet (fail)
     go_wp2_with fail
     go_quiet (fail)
     go_wp2_with fail
     go_roundg (t.size - (k + 1))
     case measure => omega
     case rel =>
      refine ⟨ds ++ [t[k]], k + 1, ?_, by omega, rfl, ?_, ?_, by simp; omega, ?_, ?_, ?_⟩
      ·have := Hk.u; simp; omega
      ·rw [val_snoc]; congr 1; omega
      ·simp
      ·have h0 := fun n => (Hr.u.draws n).move (a' := k + 1) (by omega) (by have := Hr.u.rd.cnt; omega)
       show RdR _ _ _ _ _ _ _ _
       simpa using h0 _
      ·show _ = _
       rw [Hx.u, L_drop t k hlt]; simp
      ·intro c hc
       simp at hc
       rcases hc with hc | rfl
       ·exact Hd.u c hc
       ·exact Hdig.u
    ·have hnd : digB (t[k].toNat : Int) = false := by simpa using hdig
     have Hst : Hid (digB (hd ((L t).drop k)) = false) := by show _ = _; rw [hd_drop t k hlt]; exact hnd
     have hcs : (t[k].toNat : Int) < 48 ∨ 57 < (t[k].toNat : Int) := by simp [digB] at hnd; omega
     clear hdig hnd
     rcases hcs with hcs | hcs
     all_goals
      go_wp2_with fail
      go_quiet (fail)
      go_wp2_with fail
      go_quiet (fail)
      go_wp2_with fail
      go_ret2
      exact ⟨ds, k, rfl, ⟨Hx.u, Hd.u, hdm, .inr Hst.u⟩, Hk.u, Hr.u.draws _⟩
   ·have d1 : decide ((k : Int) < (t.size : Int)) = false := by simp; omega
    have Hst : Hid (digB (hd ((L t).drop k)) = false) := by show _ = _; rw [hd_end t k (by omega)]; rfl
    go_wp2_with fail
    go_quiet (fail)
    go_wp2_with fail
    go_ret2
    exact ⟨ds, k, rfl, ⟨Hx.u, Hd.u, hdm, .inr Hst.u⟩, Hk.u, Hr.u.draws _⟩
  ·have d0 : decide ((ds.length : Int) < (m : Int)) = false := by simp; omega
   go_wp2_with fail
   go_quiet (fail)
   go_wp2_with fail
   go_ret2
   exact ⟨ds, k, rfl, ⟨Hx.u, Hd.u, hdm, .inl (by omega)⟩, Hk.u, Hr.u.draws _⟩
theorem day_any (b : Nat) (t : ByteArray) (p : Nat) (v : Value) (ps : List Pt) (w : World) (h : Rd w b t p v ps) :
  Calls Tryz.prog 198 #[.pointer (some ⟨b, 0, none⟩)] w fun e w' => ∃ x ds p1 p', e = .returned (.tuple #[.int .i64 (val ds), .bool (decide (0 < ds.length))]) ∧
   Skp t p p1 x ∧ Dg 3 ((L t).drop p1) ds ((L t).drop p') ∧ p' = p1 + ds.length ∧ RdR b t v w w' p' v ps := by
 have H := hI h
 clear h
 go_enter Tryz.func198, Tryz.ntmps198
 go_wp2_with fail
 refine (skipBlanks_any b t p v ps _ H.u).mono ?_
 rintro e w1 ⟨rfl, p1, x, hp, hr, hx, hb, hn⟩
 have Hr := hI hr
 have Hs : Hid (Skp t p p1 x) := ⟨hp, hx, hb, hn⟩
 clear hr hx hb hn hp
 go_wp2_with fail
 refine (digits_any b t p1 v ps 3 _ Hr.u.rd (by omega)).mono ?_
 rintro e w2 ⟨ds, p', rfl, hd, hpe, hr2⟩
 have Hd := hI hd
 have Hpe := hI hpe
 have Hr2 := hI (Hr.u.trans hr2)
 clear hd hpe hr2
 go_wp2_with fail
 go_ret2
 exact ⟨x, ds, p1, p', rfl, Hs.u, Hd.u, Hpe.u, Hr2.u⟩
def Grd (w : World) (g : Nat) (s : Bk) (pd : List (List UInt8 × List UInt8)) (cells : List (List Cl)) : Prop := ∃ pb B vf vt vr vc ss vs, GridAt w g s pd cells pb B vf vt vr vc ss vs
theorem Grd.kept {w w' : World} {g : Nat} {s : Bk} {pd : List (List UInt8 × List UInt8)} {cells : List (List Cl)} (h : Grd w g s pd cells) (hb : Below w.heap.size w w') : Grd w' g s pd cells := by
 obtain ⟨a, b, c, d, e, f, i, j, h⟩ := h
 exact ⟨a, b, c, d, e, f, i, j, h.kept hb⟩
theorem dig_at {t : ByteArray} {l : List UInt8} (h : L t = l) (hd : ∀ c ∈ l, digB c.toNat = true) : ∀ k (hk : k < t.size), 48 ≤ t[k].toNat ∧ t[k].toNat ≤ 57 := by
 intro k hk
 have := hd t[k] (by rw [← h, ← L_get t k hk]; exact List.getElem_mem _)
 simp [digB] at this
 omega
theorem val_in {l : List UInt8} (h : l.length ≤ 18) (hd : ∀ c ∈ l, digB c.toNat = true) : inR (val l) = true := by
 have h1 := val_pos l hd
 have h2 := val_lt l hd
 have h3 : (10 : Int) ^ l.length ≤ 10 ^ 18 := by
  have : (10 : Nat) ^ l.length ≤ 10 ^ 18 := Nat.pow_le_pow_right (by omega) h
  exact_mod_cast this
 have : (10 : Int) ^ 18 = 1000000000000000000 := by decide
 rw [inR_iff]; omega
theorem gOpnd_num (t : ByteArray) (g k : Nat) (w : World) (h1 : 1 ≤ (L t).length) (h18 : (L t).length ≤ 18) (hd : ∀ c ∈ L t, digB c.toNat = true) :
  Calls Tryz.prog 120 #[.pointer (some ⟨g, 0, none⟩), .string t, .int .i64 (k : Int)] w fun e w' => e = .returned (clV (val (L t), 0)) ∧ Below w.heap.size w w' := by
 have hz : 0 < t.size := by rw [← L_length]; omega
 have hd0 : digB (t[0].toNat : Int) = true := hd _ (by rw [← L_get t 0 hz]; exact List.getElem_mem _)
 have Hd0 := hI hd0
 have hs : t.size ≤ 18 := by rw [← L_length]; exact h18
 have Hda := hI (dig_at rfl hd)
 clear hd hd0 h1 h18
 go_enter Tryz.func120, Tryz.ntmps120
 go_wp2_with fail
 refine (dgt _ _).mono ?_
 rintro e w1 ⟨rfl, rfl⟩
 rw [Hd0.u]
 go_wp2_with fail
 refine (value_any t _ hs Hda.u).mono ?_
 rintro e w1 ⟨rfl, _, _, rfl⟩
 go_wp2_with fail
 refine bodyPost_ret (v := clV (val (L t), 0)) (by simp [results, Tryz.results120, go_sem, clV]) rfl ⟨rfl, ?_⟩
 first
  | exact (((Below.refl _ _).alloc (Nat.le_refl _) _).setCell (by simp) _).setCell (by simp) _
  | exact (Below.refl _ _).alloc (Nat.le_refl _) _
theorem sign_val {t : ByteArray} {c : UInt8} {ds : List UInt8} (he : L t = c :: ds) (h1 : 1 ≤ ds.length) (h2 : ds.length ≤ 2) (hd : ∀ x ∈ ds, digB x.toNat = true) :
  1 < t.size ∧ t.size ≤ 3 ∧ (∀ hz : 0 < t.size, t[0] = c) ∧ (t.extract 1 t.size).size ≤ 18 ∧ (∀ k (hk : k < (t.extract 1 t.size).size), 48 ≤ (t.extract 1 t.size)[k].toNat ∧ (t.extract 1 t.size)[k].toNat ≤ 57) ∧ ∃ n : Nat, val (L (t.extract 1 t.size)) = n ∧ val ds = n := by
 have hsz : t.size = ds.length + 1 := by rw [← L_length, he]; rfl
 have hex : L (t.extract 1 t.size) = ds := by
  rw [L_extract, he, List.drop_succ_cons, List.drop_zero]
  exact List.take_of_length_le (by omega)
 refine ⟨by omega, by omega, fun hz => ?_, ?_, dig_at hex hd, (val ds).toNat, ?_, ?_⟩
 ·have e1 := L_get? t 0 hz
  rw [he] at e1
  simpa using e1.symm
 ·rw [← L_length, hex]; omega
 ·rw [hex]; have := val_pos ds hd; omega
 ·have := val_pos ds hd; omega
theorem gOpnd_row (t : ByteArray) (g k : Nat) (s : Bk) (pd : List (List UInt8 × List UInt8)) (cells : List (List Cl)) (w : World) (c : UInt8) (ds : List UInt8) (he : L t = c :: ds) (h1 : 1 ≤ ds.length) (h2 : ds.length ≤ 2) (hd : ∀ x ∈ ds, digB x.toNat = true)
  (hc : (c.toNat : Int) = 36) (h : Grd w g s pd cells) (hk : k < pd.length) (hn : (val ds).toNat < cells.length) :
  Calls Tryz.prog 120 #[.pointer (some ⟨g, 0, none⟩), .string t, .int .i64 (k : Int)] w fun e w' => e = .returned (clV ((cells.getD (val ds).toNat []).getD k (0, 0))) ∧ Below w.heap.size w w' := by
 obtain ⟨hz1, hz3, ht0, hes, hed, n, hv, hn2⟩ := sign_val he h1 h2 hd
 obtain ⟨pb, B, vf, vt, vr, vc, ss, vs, h⟩ := h
 rw [hn2, Int.toNat_natCast] at hn ⊢
 obtain ⟨gc, capc, _, gr, capr, x, y, rfl, r1, _, r2, r3, hxy, hgc, hgr⟩ := row_get h hn hk
 rw [hxy]
 have c4 := (five_cells h.blk).2.2.2.2
 have hgl := h.blk.lt
 have h36 : (t[0].toNat : Int) = 36 := by rw [ht0 (by omega)]; exact hc
 have hf := h.few
 have Hed := hI hed
 have Hv := hI hv
 have hnc : (n : Int) < (cells.length : Int) := by omega
 have hkp : (k : Int) < (pd.length : Int) := by omega
 have hz : 0 < t.size := by omega
 clear h he h1 h2 hd hc hn2 ht0 hed hv hxy
 go_enter Tryz.func120, Tryz.ntmps120
 go_wp2_with fail
 refine (dgt _ _).mono ?_
 rintro e w1 ⟨rfl, rfl⟩
 rw [show digB (36 : Int) = false from rfl]
 go_wp2_with fail
 refine (value_any _ _ hes Hed.u).mono ?_
 rintro e w1 ⟨rfl, _, _, rfl⟩
 rw [Hv.u]
 go_wp2_with fail
 refine bodyPost_ret (v := clV (x, y)) (by simp [results, Tryz.results120, go_sem, clV]) rfl ⟨rfl, ?_⟩
 first
  | exact (((Below.refl _ _).alloc (Nat.le_refl _) _).setCell (by simp) _).setCell (by simp) _
  | exact (Below.refl _ _).alloc (Nat.le_refl _) _
theorem gOpnd_first (t : ByteArray) (g : Nat) (w : World) (c : UInt8) (ds : List UInt8) (he : L t = c :: ds) (h1 : 1 ≤ ds.length) (h2 : ds.length ≤ 2) (hd : ∀ x ∈ ds, digB x.toNat = true)
  (hc : (c.toNat : Int) = 60) :
  Calls Tryz.prog 120 #[.pointer (some ⟨g, 0, none⟩), .string t, .int .i64 0] w fun e w' => e = .returned (clV (0, 0)) ∧ Below w.heap.size w w' := by
 obtain ⟨hz1, hz3, ht0, hes, hed, n, hv, hn2⟩ := sign_val he h1 h2 hd
 have h36 : (t[0].toNat : Int) = 60 := by rw [ht0 (by omega)]; exact hc
 have Hed := hI hed
 have Hv := hI hv
 have hz : 0 < t.size := by omega
 clear he h1 h2 hd hc hn2 ht0 hed hv
 go_enter Tryz.func120, Tryz.ntmps120
 go_wp2_with fail
 refine (dgt _ _).mono ?_
 rintro e w1 ⟨rfl, rfl⟩
 rw [show digB (60 : Int) = false from rfl]
 go_wp2_with fail
 refine (value_any _ _ hes Hed.u).mono ?_
 rintro e w1 ⟨rfl, _, _, rfl⟩
 rw [Hv.u]
 go_wp2_with fail
 refine bodyPost_ret (v := clV (0, 0)) (by simp [results, Tryz.results120, go_sem, clV]) rfl ⟨rfl, ?_⟩
 first
  | exact (((Below.refl _ _).alloc (Nat.le_refl _) _).setCell (by simp) _).setCell (by simp) _
  | exact (Below.refl _ _).alloc (Nat.le_refl _) _
theorem gOpnd_prev (t : ByteArray) (g k : Nat) (s : Bk) (pd : List (List UInt8 × List UInt8)) (cells : List (List Cl)) (w : World) (c : UInt8) (ds : List UInt8) (he : L t = c :: ds) (h1 : 1 ≤ ds.length) (h2 : ds.length ≤ 2) (hd : ∀ x ∈ ds, digB x.toNat = true)
  (hc : (c.toNat : Int) = 60) (h : Grd w g s pd cells) (hk : k < pd.length) (hn : (val ds).toNat < cells.length) :
  Calls Tryz.prog 120 #[.pointer (some ⟨g, 0, none⟩), .string t, .int .i64 ((k + 1 : Nat) : Int)] w fun e w' => e = .returned (clV ((cells.getD (val ds).toNat []).getD k (0, 0))) ∧ Below w.heap.size w w' := by
 obtain ⟨hz1, hz3, ht0, hes, hed, n, hv, hn2⟩ := sign_val he h1 h2 hd
 obtain ⟨pb, B, vf, vt, vr, vc, ss, vs, h⟩ := h
 rw [hn2, Int.toNat_natCast] at hn ⊢
 obtain ⟨gc, capc, _, gr, capr, x, y, rfl, r1, _, r2, r3, hxy, hgc, hgr⟩ := row_get h hn hk
 rw [hxy]
 have c4 := (five_cells h.blk).2.2.2.2
 have hgl := h.blk.lt
 have h36 : (t[0].toNat : Int) = 60 := by rw [ht0 (by omega)]; exact hc
 have hf := h.few
 have Hed := hI hed
 have Hv := hI hv
 have hnc : (n : Int) < (cells.length : Int) := by omega
 have hkp : (k : Int) < (pd.length : Int) := by omega
 have hz : 0 < t.size := by omega
 have hk4 : k ≤ 4 := by omega
 have hk0 : (((k + 1 : Nat) : Int) == 0) = false := by simp; omega
 have hk1 : ((k + 1 : Nat) : Int) = (k : Int) + 1 := by omega
 clear h he h1 h2 hd hc hn2 ht0 hed hv hxy
 go_enter Tryz.func120, Tryz.ntmps120
 go_wp2_with fail
 refine (dgt _ _).mono ?_
 rintro e w1 ⟨rfl, rfl⟩
 rw [show digB (60 : Int) = false from rfl]
 go_wp2_with fail
 refine (value_any _ _ hes Hed.u).mono ?_
 rintro e w1 ⟨rfl, _, _, rfl⟩
 rw [Hv.u]
 go_wp2_with fail
 refine bodyPost_ret (v := clV (x, y)) (by simp [results, Tryz.results120, go_sem, clV]) rfl ⟨rfl, ?_⟩
 first
  | exact (((Below.refl _ _).alloc (Nat.le_refl _) _).setCell (by simp) _).setCell (by simp) _
  | exact (Below.refl _ _).alloc (Nat.le_refl _) _
theorem day_get {w : World} {g : Nat} {s : Bk} {pd : List (List UInt8 × List UInt8)} {cells : List (List Cl)} {pb B : Nat} {vf vt vr vc : Value} {ss : List ByteArray} {vs : List Value} (h : GridAt w g s pd cells pb B vf vt vr vc ss vs) {k : Nat} (hk : k < pd.length) :
  ∃ gf capf gt capt x y, vf = .slice (some ⟨gf, 0, none⟩) pd.length capf ∧ vt = .slice (some ⟨gt, 0, none⟩) pd.length capt ∧ w.cell? ⟨gf, k, none⟩ = some (.int .i64 x) ∧ w.cell? ⟨gt, k, none⟩ = some (.int .i64 y) ∧ (pdv pd).getD k (0, 0) = (x, y) ∧ gf < w.heap.size ∧ gt < w.heap.size := by
 obtain ⟨gf, capf, rfl, _, hf⟩ := oSome h.sh.rf (by omega)
 obtain ⟨gt, capt, rfl, _, ht⟩ := oSome h.sh.rt (by omega)
 obtain ⟨p, hp⟩ : ∃ p, pd[k]? = some p := ⟨pd[k], List.getElem?_eq_getElem hk⟩
 have d1 := oCell h.sh.rf (j := k) (u := .int .i64 (val p.1)) (by rw [List.getElem?_map, hp]; rfl)
 have d2 := oCell h.sh.rt (j := k) (u := .int .i64 (val p.2)) (by rw [List.getElem?_map, hp]; rfl)
 refine ⟨gf, capf, gt, capt, _, _, rfl, rfl, d1, d2, ?_, hf, ht⟩
 rw [List.getD_eq_getElem?_getD, show (pdv pd)[k]? = some (val p.1, val p.2) by unfold pdv; rw [List.getElem?_map, hp]; rfl, Option.getD_some]
def selC (s : Bk) (sel n a b : Int) : Cl := if sel == 35 then ((tkT (inA s sel n) a b s.txs).2, 0) else ((tkT (inA s sel n) a b s.txs).1, 0)
theorem kept_cell' {W W' : World} (h : Below W.heap.size W W') {a : Addr} {v : Value} (hc : W.cell? a = some v) : W'.cell? a = some v := by
 rw [h.cell (World.block_lt_of_cell? W a hc)]; exact hc
theorem gOpnd_sel (t : ByteArray) (g k : Nat) (s : Bk) (pd : List (List UInt8 × List UInt8)) (cells : List (List Cl)) (w : World) (c : UInt8) (ds : List UInt8) (he : L t = c :: ds) (h1 : 1 ≤ ds.length) (h2 : ds.length ≤ 2) (hd : ∀ x ∈ ds, digB x.toNat = true)
  (hc : selB (c.toNat : Int) = true) (h : Grd w g s pd cells) (hk : k < pd.length) :
  Calls Tryz.prog 120 #[.pointer (some ⟨g, 0, none⟩), .string t, .int .i64 (k : Int)] w fun e w' => e = .returned (clV (selC s c.toNat (val ds) ((pdv pd).getD k (0, 0)).1 ((pdv pd).getD k (0, 0)).2)) ∧ Below w.heap.size w w' := by
 obtain ⟨hz1, hz3, ht0, hes, hed, n, hv, hn2⟩ := sign_val he h1 h2 hd
 obtain ⟨pb, B, vf, vt, vr, vc, ss, vs, h⟩ := h
 obtain ⟨gf, capf, gt, capt, x, y, rfl, rfl, d1, d2, hxy, hgf, hgt⟩ := day_get h hk
 obtain ⟨B', hR⟩ := h.bk
 rw [hn2, hxy]
 obtain ⟨c0, c1, c2, c3, c4⟩ := five_cells h.blk
 have hgl := h.blk.lt
 have hsz : t[0].toNat = c.toNat := by rw [ht0 (by omega)]
 obtain ⟨o, ho⟩ : ∃ o : Int, (c.toNat : Int) = o := ⟨_, rfl⟩
 have hto : (t[0].toNat : Int) = o := by rw [hsz]; exact ho
 rw [ho] at hc ⊢
 have hdg : digB o = false := by simp [selB] at hc; rcases hc with (rfl | rfl) | rfl <;> rfl
 have n36 := sel_ne hc 36 rfl
 have n60 := sel_ne hc 60 rfl
 have hf := h.few
 have Hed := hI hed
 have Hv := hI hv
 have hkp : (k : Int) < (pd.length : Int) := by omega
 have hz : 0 < t.size := by omega
 have Hdg := hI hdg
 have Htk := hI (fun (wx : World) (hb : Below w.heap.size w wx) => taken_any B' pb s o n x y wx (hR.kept hb))
 obtain ⟨u, hu⟩ : ∃ u, tkT (inA s o n) x y s.txs = u := ⟨_, rfl⟩
 rw [hu] at Htk
 obtain ⟨r, hr⟩ : ∃ r, selC s o n x y = r := ⟨_, rfl⟩
 have Hr : Hid (r = if o == 35 then (u.2, 0) else (u.1, 0)) := by show _ = _; rw [← hr]; unfold selC; rw [hu]
 rw [hr]
 clear hr
 have Hsel : Hid (∀ (W : World), Below (w.alloc (.cells #[.int .i64 0, .int .u8 0] 139)).heap.size (w.alloc (.cells #[.int .i64 0, .int .u8 0] 139)) W → Blk W w.heap.size #[.int .i64 0, .int .u8 0] 139 ∧ Below w.heap.size w W) := fun W hb => ⟨(Blk.new _ _ _).kept hb, ((Below.refl _ _).alloc (Nat.le_refl _) _).then' (by simp) hb⟩
 clear h he h1 h2 hd hc hn2 ht0 hed hv hxy hR hdg ho hsz hu
 go_enter Tryz.func120, Tryz.ntmps120
 go_wp2_with fail
 refine (dgt _ _).mono ?_
 rintro e w1 ⟨rfl, rfl⟩
 rw [Hdg.u]
 go_wp2_with fail
 refine (value_any _ _ hes Hed.u).mono ?_
 rintro e w1 ⟨rfl, _, _, rfl⟩
 rw [Hv.u]
 go_upto_region 13 with fail
 go_region_held3 (fun w' => w'.cell? ⟨g, 0, none⟩ = some (.pointer (some ⟨pb, 0, none⟩)) ∧ w'.cell? ⟨g, 1, none⟩ = some (.slice (some ⟨gf, 0, none⟩) pd.length capf) ∧ w'.cell? ⟨g, 2, none⟩ = some (.slice (some ⟨gt, 0, none⟩) pd.length capt) ∧ w'.cell? ⟨gf, k, none⟩ = some (.int .i64 x) ∧ w'.cell? ⟨gt, k, none⟩ = some (.int .i64 y)) (first | go_keep | exact ⟨k0, k1, k2, k3, k4⟩) (first | (go_at_call 165; refine (Htk.u _ (by exact ((Below.refl _ _).alloc (Nat.le_refl _) _).drew)).mono ?_; rintro e w4 ⟨rfl, hb4⟩; have k0 := kept_cell' hb4 (a := ⟨g, 0, none⟩) (v := .pointer (some ⟨pb, 0, none⟩)) (by simp [*]); have k1 := kept_cell' hb4 (a := ⟨g, 1, none⟩) (v := .slice (some ⟨gf, 0, none⟩) pd.length capf) (by simp [*]); have k2 := kept_cell' hb4 (a := ⟨g, 2, none⟩) (v := .slice (some ⟨gt, 0, none⟩) pd.length capt) (by simp [*]); have k3 := kept_cell' hb4 (a := ⟨gf, k, none⟩) (v := .int .i64 x) (by simp [*]); have k4 := kept_cell' hb4 (a := ⟨gt, k, none⟩) (v := .int .i64 y) (by simp [*])))
 have hsel := Hsel.u w4 hb4.undrew
 have HB := hI hsel.2
 obtain ⟨r0, r1, z0, z1, lr⟩ := two_cells hsel.1
 clear hsel hb4 Hsel Htk
 cases h35 : (o == 35) with
 | true =>
  obtain rfl : r = (u.2, 0) := by have := Hr.u; rw [h35] at this; exact this
  go_wp2_with fail
  refine bodyPost_ret (v := clV (u.2, 0)) (by simp [results, Tryz.results120, go_sem, clV, r0, r1]) rfl ⟨rfl, ?_⟩
  exact (HB.u.setCell (by simp) _).setCell (by simp) _
 | false =>
  obtain rfl : r = (u.1, 0) := by have := Hr.u; rw [h35] at this; exact this
  go_wp2_with fail
  refine bodyPost_ret (v := clV (u.1, 0)) (by simp [results, Tryz.results120, go_sem, clV, r0, r1]) rfl ⟨rfl, ?_⟩
  exact (HB.u.setCell (by simp) _).setCell (by simp) _
theorem tkT_in {s : Bk} (h : BkGood s) (q : Int → Bool) (a b : Int) : inR (tkT q a b s.txs).1 = true ∧ inR (tkT q a b s.txs).2 = true := by
 have h1 := tkT_le q a b s.txs (fun t ht => ⟨(h.tx t ht).2.2.2.2.1, fun l hl => ⟨((h.tx t ht).2.2.2.2.2 l hl).2.2.1, ((h.tx t ht).2.2.2.2.2 l hl).2.2.2⟩⟩)
 have h2 := h.posts
 rw [inR_iff, inR_iff]
 omega
theorem selC_ok {s : Bk} (h : BkGood s) (o n a b : Int) : ClOk (selC s o n a b) := by
 unfold selC
 split
 ·exact .inl ⟨rfl, (tkT_in h _ a b).2⟩
 ·exact .inl ⟨rfl, (tkT_in h _ a b).1⟩
theorem Grd.good {w : World} {g : Nat} {s : Bk} {pd : List (List UInt8 × List UInt8)} {cells : List (List Cl)} (h : Grd w g s pd cells) : BkGood s := by
 obtain ⟨_, _, _, _, _, _, _, _, h⟩ := h
 obtain ⟨_, _, _, _, _, h⟩ := h.bk
 exact h.good
theorem cell_ok {cells : List (List Cl)} (h : ∀ row ∈ cells, ∀ c ∈ row, ClOk c) (n k : Nat) : ClOk ((cells.getD n []).getD k (0, 0)) := by
 rw [List.getD_eq_getElem?_getD, List.getD_eq_getElem?_getD]
 cases hn : cells[n]? with
 | none => left; exact ⟨rfl, rfl⟩
 | some row =>
  simp only [Option.getD_some]
  cases hk : row[k]? with
  | none => left; exact ⟨rfl, rfl⟩
  | some c => exact h row (List.mem_of_getElem? hn) c (List.mem_of_getElem? hk)
theorem gOperand_any (t : ByteArray) (g k : Nat) (s : Bk) (pd : List (List UInt8 × List UInt8)) (cells : List (List Cl)) (w : World) (p : Pt) (ho : Opnd (L t) [p]) (h : Grd w g s pd cells) (hk : k < pd.length) (hn : oldB p.1 = true → p.2.toNat < cells.length) :
  Calls Tryz.prog 120 #[.pointer (some ⟨g, 0, none⟩), .string t, .int .i64 (k : Int)] w fun e w' => e = .returned (clV (opv (gE s pd cells k) p)) ∧ ClOk (opv (gE s pd cells k) p) ∧ Below w.heap.size w w' := by
 have hgood := h.good
 have hok : ∀ row ∈ cells, ∀ c ∈ row, ClOk c := by obtain ⟨_, _, _, _, _, _, _, _, h⟩ := h; exact h.ok
 rcases ho with ⟨h1, h18, hd, he⟩ | ⟨c, ds, he, h1, hd, hs, hp⟩
 ·cases he
  refine (gOpnd_num t g k w h1 h18 hd).mono ?_
  rintro e w1 ⟨rfl, hb⟩
  exact ⟨rfl, .inl ⟨rfl, val_in h18 hd⟩, hb⟩
 ·cases hp
  have hl : ds.length ≤ 2 := by rcases hs with ⟨_, h⟩ | ⟨_, h⟩ <;> omega
  rcases hs with ⟨hs, _⟩ | ⟨hs, _⟩
  ·refine (gOpnd_sel t g k s pd cells w c ds he h1 hl hd hs h hk).mono ?_
   rintro e w1 ⟨rfl, hb⟩
   have e1 : opv (gE s pd cells k) ((c.toNat : Int), val ds) = selC s c.toNat (val ds) ((pdv pd).getD k (0, 0)).1 ((pdv pd).getD k (0, 0)).2 := by
    have n48 := sel_ne hs 48 rfl
    have n36 := sel_ne hs 36 rfl
    have n60 := sel_ne hs 60 rfl
    unfold opv gE opE selC
    simp only [n48, n36, n60, Bool.false_eq_true, if_false]
   rw [e1]
   exact ⟨rfl, selC_ok hgood _ _ _ _, hb⟩
  ·have hcc : (c.toNat : Int) = 36 ∨ (c.toNat : Int) = 60 := by simp [oldB] at hs; omega
   have hn' := hn hs
   simp only at hn'
   rcases hcc with hc | hc
   ·refine (gOpnd_row t g k s pd cells w c ds he h1 hl hd hc h hk hn').mono ?_
    rintro e w1 ⟨rfl, hb⟩
    have e1 : opv (gE s pd cells k) ((c.toNat : Int), val ds) = (cells.getD (val ds).toNat []).getD k (0, 0) := by
     rw [hc]; rfl
    rw [e1]
    exact ⟨rfl, cell_ok hok _ _, hb⟩
   ·cases k with
    | zero =>
     refine (gOpnd_first t g w c ds he h1 hl hd hc).mono ?_
     rintro e w1 ⟨rfl, hb⟩
     have e1 : opv (gE s pd cells 0) ((c.toNat : Int), val ds) = (0, 0) := by
      rw [hc]; rfl
     rw [e1]
     exact ⟨rfl, .inl ⟨rfl, rfl⟩, hb⟩
    | succ k =>
     refine (gOpnd_prev t g k s pd cells w c ds he h1 hl hd hc h (by omega) hn').mono ?_
     rintro e w1 ⟨rfl, hb⟩
     have e1 : opv (gE s pd cells (k + 1)) ((c.toNat : Int), val ds) = (cells.getD (val ds).toNat []).getD k (0, 0) := by
      rw [hc]; rfl
     rw [e1]
     exact ⟨rfl, cell_ok hok _ _, hb⟩
def WorthC (n : Nat) : Prop := ∀ (t : ByteArray) (ps : List Pt) (g k : Nat) (s : Bk) (pd : List (List UInt8 × List UInt8)) (cells : List (List Cl)) (w : World), t.size ≤ 200 → Wf n (L t) ps → Grd w g s pd cells → k < pd.length → (∀ p ∈ ps, oldB p.1 = true → p.2.toNat < cells.length) →
  Calls Tryz.prog 118 #[.pointer (some ⟨g, 0, none⟩), .string t, .int .i64 (k : Int)] w fun e w' => ∃ c : Cl, e = .returned (clV c) ∧ ValR (gE s pd cells k) ps c ∧ ClOk c ∧ Below w.heap.size w w'
theorem clOk_in {c : Cl} (h : ClOk c) : inR c.1 = true := by
 rcases h with h | rfl | rfl
 ·exact h.2
 ·rfl
 ·rfl
theorem worth_leaf (t : ByteArray) (ps : List Pt) (g k : Nat) (s : Bk) (pd : List (List UInt8 × List UInt8)) (cells : List (List Cl)) (w : World) (hs : t.size ≤ 200) (hcut : cut (L t) = (0, [], L t)) (hop : Opnd (L t) ps) (h : Grd w g s pd cells) (hk : k < pd.length) (hn : ∀ p ∈ ps, oldB p.1 = true → p.2.toNat < cells.length) :
  Calls Tryz.prog 118 #[.pointer (some ⟨g, 0, none⟩), .string t, .int .i64 (k : Int)] w fun e w' => ∃ c : Cl, e = .returned (clV c) ∧ ValR (gE s pd cells k) ps c ∧ ClOk c ∧ Below w.heap.size w w' := by
 obtain ⟨p, rfl, hp⟩ := opnd_opd hop
 have Hc := hI (fun (wx : World) (hb : Below w.heap.size w wx) => gOperand_any t g k s pd cells wx p hop (h.kept hb) hk (hn p (by simp)))
 have Hv := hI (valR_leaf (gE s pd cells k) hp)
 obtain ⟨c, hc⟩ : ∃ c, opv (gE s pd cells k) p = c := ⟨_, rfl⟩
 rw [hc] at Hc Hv
 have Hcut := hI hcut
 clear hcut hop h hn hp hc
 go_enter Tryz.func118, Tryz.ntmps118
 go_wp2_with fail
 refine (cut_any t _ hs).mono ?_
 rintro e w1 ⟨o, l, r, rfl, ⟨hco, hcl, hcr⟩, m, rfl⟩
 rw [Hcut.u] at hco hcl hcr
 obtain rfl : r = t := L_inj hcr
 subst hco
 clear hcl hcr
 go_wp2_with fail
 refine (Hc.u _ (by exact ((Below.refl _ _).alloc (Nat.le_refl _) _).drewN m)).mono ?_
 rintro e w2 ⟨rfl, hok, hb⟩
 have Hok := hI hok
 have HB : Hid (Below w.heap.size w w2) := (((Below.refl _ _).alloc (Nat.le_refl _) _).drewN m).then' (by simp) hb
 obtain ⟨r0, r1, z0, z1, lr⟩ := two_cells ((Blk.new w #[.int .i64 0, .int .u8 0] 139).kept hb.undrewN)
 obtain ⟨c1, c2⟩ := c
 unfold clV
 clear hb hok Hc
 go_wp2_with fail
 refine bodyPost_ret (v := clV (c1, c2)) (by simp [results, Tryz.results118, go_sem, clV, r0, r1]) rfl ⟨(c1, c2), rfl, Hv.u, Hok.u, ?_⟩
 exact (HB.u.setCell (by simp) _).setCell (by simp) _
theorem worth_par (n : Nat) (ih : WorthC n) (t : ByteArray) (g k : Nat) (s : Bk) (pd : List (List UInt8 × List UInt8)) (cells : List (List Cl)) (w : World) (hs : t.size ≤ 200) (ps : List Pt) (ho : (cut (L t)).1 = 40) (hw : Wf n (cut (L t)).2.2 ps) (h : Grd w g s pd cells) (hk : k < pd.length) (hn : ∀ p ∈ ps, oldB p.1 = true → p.2.toNat < cells.length) :
  Calls Tryz.prog 118 #[.pointer (some ⟨g, 0, none⟩), .string t, .int .i64 (k : Int)] w fun e w' => ∃ c : Cl, e = .returned (clV c) ∧ ValR (gE s pd cells k) ps c ∧ ClOk c ∧ Below w.heap.size w w' := by
 have Hih := hI (fun (wx : World) (r : ByteArray) (hb : Below w.heap.size w wx) (hr : r.size ≤ 200) (hwr : Wf n (L r) ps) => ih r ps g k s pd cells wx hr hwr (h.kept hb) hk hn)
 have Hw := hI hw
 have Ho := hI ho
 obtain ⟨E, hE⟩ : ∃ E, gE s pd cells k = E := ⟨_, rfl⟩
 rw [hE] at Hih ⊢
 clear ih hw ho h hn hE
 go_enter Tryz.func118, Tryz.ntmps118
 go_wp2_with fail
 refine (cut_any t _ hs).mono ?_
 rintro e w1 ⟨o, l, r, rfl, ⟨hco, hcl, hcr⟩, m, rfl⟩
 obtain rfl : (40 : Int) = o := Ho.u.symm.trans hco
 have Hr : Hid (Wf n (L r) ps) := by show Wf _ _ _; rw [hcr]; exact Hw.u
 have hrs : r.size ≤ 200 := Nat.le_trans (size_of_L hcr (cut_le (L t)).2) hs
 clear hco hcl hcr Hw Ho
 go_wp2_with fail
 refine (Hih.u _ r (by exact ((Below.refl _ _).alloc (Nat.le_refl _) _).drewN m) hrs Hr.u).mono ?_
 rintro e w2 ⟨c, rfl, hv, hok, hb⟩
 have Hok := hI hok
 have Hv := hI hv
 have HB : Hid (Below w.heap.size w w2) := (((Below.refl _ _).alloc (Nat.le_refl _) _).drewN m).then' (by simp) hb
 obtain ⟨r0, r1, z0, z1, lr⟩ := two_cells ((Blk.new w #[.int .i64 0, .int .u8 0] 139).kept hb.undrewN)
 obtain ⟨c1, c2⟩ := c
 unfold clV
 clear hb hok hv Hih
 go_wp2_with fail
 refine bodyPost_ret (v := clV (c1, c2)) (by simp [results, Tryz.results118, go_sem, clV, r0, r1]) rfl ⟨(c1, c2), rfl, Hv.u, Hok.u, ?_⟩
 exact (HB.u.setCell (by simp) _).setCell (by simp) _
theorem worth_neg (n : Nat) (ih : WorthC n) (t : ByteArray) (g k : Nat) (s : Bk) (pd : List (List UInt8 × List UInt8)) (cells : List (List Cl)) (w : World) (hs : t.size ≤ 200) (ps : List Pt) (ho : (cut (L t)).1 = 126) (hw : Wf n (cut (L t)).2.2 ps) (h : Grd w g s pd cells) (hk : k < pd.length) (hn : ∀ p ∈ ps, oldB p.1 = true → p.2.toNat < cells.length) :
  Calls Tryz.prog 118 #[.pointer (some ⟨g, 0, none⟩), .string t, .int .i64 (k : Int)] w fun e w' => ∃ c : Cl, e = .returned (clV c) ∧ ValR (gE s pd cells k) (ps ++ [(126, 0)]) c ∧ ClOk c ∧ Below w.heap.size w w' := by
 have Hih := hI (fun (wx : World) (r : ByteArray) (hb : Below w.heap.size w wx) (hr : r.size ≤ 200) (hwr : Wf n (L r) ps) => ih r ps g k s pd cells wx hr hwr (h.kept hb) hk hn)
 have Hw := hI hw
 have Ho := hI ho
 obtain ⟨E, hE⟩ : ∃ E, gE s pd cells k = E := ⟨_, rfl⟩
 rw [hE] at Hih ⊢
 clear ih hw ho h hn hE
 go_enter Tryz.func118, Tryz.ntmps118
 go_wp2_with fail
 refine (cut_any t _ hs).mono ?_
 rintro e w1 ⟨o, l, r, rfl, ⟨hco, hcl, hcr⟩, m, rfl⟩
 obtain rfl : (126 : Int) = o := Ho.u.symm.trans hco
 have Hr : Hid (Wf n (L r) ps) := by show Wf _ _ _; rw [hcr]; exact Hw.u
 have hrs : r.size ≤ 200 := Nat.le_trans (size_of_L hcr (cut_le (L t)).2) hs
 clear hco hcl hcr Hw Ho
 go_wp2_with fail
 refine (Hih.u _ r (by exact ((Below.refl _ _).alloc (Nat.le_refl _) _).drewN m) hrs Hr.u).mono ?_
 rintro e w2 ⟨c, rfl, hv, hok, hb⟩
 have Hok := hI hok
 have Hv := hI hv
 have HB : Hid (Below w.heap.size w w2) := (((Below.refl _ _).alloc (Nat.le_refl _) _).drewN m).then' (by simp) hb
 have HR := hI ((Blk.new w #[.int .i64 0, .int .u8 0] 139).kept hb.undrewN)
 have hsz := HB.u.size
 have Hdn := hI (fun (wx : World) => done_any 45 (0, 0) c wx rfl (clOk_in hok))
 have Hd2 : Hid (ValR E (ps ++ [(126, 0)]) (don 45 (0, 0) c) ∧ ClOk (don 45 (0, 0) c)) := ⟨valR_neg hv, don_ok (.inl ⟨rfl, rfl⟩) hok⟩
 obtain ⟨d, hd⟩ : ∃ d, don 45 (0, 0) c = d := ⟨_, rfl⟩
 rw [hd] at Hdn Hd2
 obtain ⟨c1, c2⟩ := c
 unfold clV at Hdn ⊢
 simp only at Hdn
 clear hb hok hv Hih hd Hv Hok
 go_wp2_with fail
 refine (Hdn.u _).mono ?_
 rintro e w3 ⟨rfl, hb3⟩
 obtain ⟨d1, d2⟩ := d
 obtain ⟨r0, r1, z0, z1, lr⟩ := two_cells ((HR.u.alloc (.cells #[.int .i64 c1, .int .u8 c2] 139)).kept hb3)
 have HB3 := hI ((HB.u.alloc hsz _).then' (by simp; omega) hb3)
 simp only
 clear hb3 Hdn
 go_wp2_with fail
 refine bodyPost_ret (v := clV (d1, d2)) (by simp [results, Tryz.results118, go_sem, clV, r0, r1]) rfl ⟨(d1, d2), rfl, Hd2.u.1, Hd2.u.2, ?_⟩
 exact (HB3.u.setCell (by simp) _).setCell (by simp) _
theorem worth_bin (n : Nat) (ih : WorthC n) (t : ByteArray) (g k : Nat) (s : Bk) (pd : List (List UInt8 × List UInt8)) (cells : List (List Cl)) (w : World) (hs : t.size ≤ 200) (p q : List Pt) (ho : opB (cut (L t)).1 = true) (hp : Wf n (cut (L t)).2.1 p) (hq : Wf n (cut (L t)).2.2 q) (h : Grd w g s pd cells) (hk : k < pd.length) (hnp : ∀ x ∈ p, oldB x.1 = true → x.2.toNat < cells.length) (hnq : ∀ x ∈ q, oldB x.1 = true → x.2.toNat < cells.length) :
  Calls Tryz.prog 118 #[.pointer (some ⟨g, 0, none⟩), .string t, .int .i64 (k : Int)] w fun e w' => ∃ c : Cl, e = .returned (clV c) ∧ ValR (gE s pd cells k) (p ++ q ++ [((cut (L t)).1, 0)]) c ∧ ClOk c ∧ Below w.heap.size w w' := by
 have Hip := hI (fun (wx : World) (r : ByteArray) (hb : Below w.heap.size w wx) (hr : r.size ≤ 200) (hwr : Wf n (L r) p) => ih r p g k s pd cells wx hr hwr (h.kept hb) hk hnp)
 have Hiq := hI (fun (wx : World) (r : ByteArray) (hb : Below w.heap.size w wx) (hr : r.size ≤ 200) (hwr : Wf n (L r) q) => ih r q g k s pd cells wx hr hwr (h.kept hb) hk hnq)
 have Hp := hI hp
 have Hq := hI hq
 have Ho := hI ho
 obtain ⟨E, hE⟩ : ∃ E, gE s pd cells k = E := ⟨_, rfl⟩
 rw [hE] at Hip Hiq ⊢
 obtain ⟨oo, hoo⟩ : ∃ oo, (cut (L t)).1 = oo := ⟨_, rfl⟩
 rw [hoo]
 have Hoo := hI hoo
 clear ih hp hq ho h hnp hnq hE hoo
 go_enter Tryz.func118, Tryz.ntmps118
 go_wp2_with fail
 refine (cut_any t _ hs).mono ?_
 rintro e w1 ⟨o, l, r, rfl, ⟨hco, hcl, hcr⟩, m, rfl⟩
 have ho := Ho.u
 rw [hco] at ho
 obtain rfl : oo = o := Hoo.u.symm.trans hco
 have Hl : Hid (Wf n (L l) p) := by show Wf _ _ _; rw [hcl]; exact Hp.u
 have Hr : Hid (Wf n (L r) q) := by show Wf _ _ _; rw [hcr]; exact Hq.u
 have hls : l.size ≤ 200 := Nat.le_trans (size_of_L hcl (cut_le (L t)).1) hs
 have hrs : r.size ≤ 200 := Nat.le_trans (size_of_L hcr (cut_le (L t)).2) hs
 have n40 := op_ne ho 40 rfl
 have n126 := op_ne ho 126 rfl
 have n0 := op_ne ho 0 rfl
 have Hoq := hI ho
 clear hco hcl hcr Hp Hq Ho ho
 go_wp2_with fail
 refine (Hip.u _ l (by exact ((Below.refl _ _).alloc (Nat.le_refl _) _).drewN m) hls Hl.u).mono ?_
 rintro e w2 ⟨c, rfl, hv, hok, hb⟩
 have Hok := hI hok
 have Hv := hI hv
 have HB : Hid (Below w.heap.size w w2) := (((Below.refl _ _).alloc (Nat.le_refl _) _).drewN m).then' (by simp) hb
 have HR := hI ((Blk.new w #[.int .i64 0, .int .u8 0] 139).kept hb.undrewN)
 have hsz := HB.u.size
 obtain ⟨c1, c2⟩ := c
 unfold clV
 simp only
 clear hb hok hv Hip
 go_wp2_with fail
 refine (Hiq.u _ r (by exact HB.u.alloc hsz _) hrs Hr.u).mono ?_
 rintro e w3 ⟨d, rfl, hv, hok, hb⟩
 have Hok3 := hI hok
 have Hv3 := hI hv
 have HB3 := hI ((HB.u.alloc hsz _).then' (by simp; omega) hb)
 have HR3 := hI ((HR.u.alloc (.cells #[.int .i64 c1, .int .u8 c2] 139)).kept hb)
 have hsz3 := HB3.u.size
 obtain ⟨x0, x1, _, _, lx⟩ := two_cells ((Blk.new w2 #[.int .i64 c1, .int .u8 c2] 139).kept hb)
 have Hdn := hI (fun (wx : World) => done_any oo (c1, c2) d wx (clOk_in Hok.u) (clOk_in hok))
 have Hd2 : Hid (ValR E (p ++ q ++ [(oo, 0)]) (don oo (c1, c2) d) ∧ ClOk (don oo (c1, c2) d)) := ⟨valR_bin Hoq.u Hv.u hv, don_ok Hok.u hok⟩
 obtain ⟨z, hz⟩ : ∃ z, don oo (c1, c2) d = z := ⟨_, rfl⟩
 rw [hz] at Hdn Hd2
 obtain ⟨d1, d2⟩ := d
 unfold clV at Hdn ⊢
 simp only at Hdn ⊢
 clear hb hok hv Hiq hz Hv Hok Hok3 Hv3
 go_wp2_with fail
 refine (Hdn.u _).mono ?_
 rintro e w4 ⟨rfl, hb4⟩
 obtain ⟨z1, z2⟩ := z
 obtain ⟨r0, r1, y0, y1, lr⟩ := two_cells ((HR3.u.alloc (.cells #[.int .i64 d1, .int .u8 d2] 139)).kept hb4)
 have HB4 := hI ((HB3.u.alloc hsz3 _).then' (by simp; omega) hb4)
 simp only
 clear hb4 Hdn
 go_wp2_with fail
 refine bodyPost_ret (v := clV (z1, z2)) (by simp [results, Tryz.results118, go_sem, clV, r0, r1]) rfl ⟨(z1, z2), rfl, Hd2.u.1, Hd2.u.2, ?_⟩
 exact (HB4.u.setCell (by simp) _).setCell (by simp) _
theorem worth_any (n : Nat) : WorthC n := by
 induction n with
 | zero => intro t ps g k s pd cells w hs hw; exact absurd hw (by simp [Wf])
 | succ n ih =>
  intro t ps g k s pd cells w hs hw h hk hn
  rcases hw with ⟨hc, hop⟩ | ⟨hc, hw⟩ | ⟨hc, p, hw, rfl⟩ | ⟨hc, p, q, hp, hq, rfl⟩
  ·exact worth_leaf t ps g k s pd cells w hs hc hop h hk hn
  ·exact worth_par n ih t g k s pd cells w hs ps hc hw h hk hn
  ·exact worth_neg n ih t g k s pd cells w hs p hc hw h hk (fun x hx => hn x (by simp [hx]))
  ·exact worth_bin n ih t g k s pd cells w hs p q hc hp hq h hk (fun x hx => hn x (by simp [hx])) (fun x hx => hn x (by simp [hx]))
end Go.Proofs.YtdchbenfccofpaaGreatDoor
namespace Db
theorem plc_d0 (a : Int) (ha : a = 0 ∨ a = 3) (l : List UInt8) : ∀ d d' o i : Int, plc a d o i l = plc a d' o i l := by
 induction l with
 | nil => intro d d' o i; rfl
 | cons c r ih =>
  intro d d' o i
  have key : ∀ e, stepS a e o c.toNat = if digB c.toNat then some (a + 1, 1, o) else if (c.toNat : Int) == 32 then some (a, e, o) else none := by
   intro e
   rcases ha with rfl | rfl
   ·rw [stepS_lt (by omega)]; unfold daysS; cases h : digB c.toNat <;> cases h2 : ((c.toNat : Int) == 32) <;> simp
   ·rw [stepS_lt (by omega)]; unfold daysS; cases h : digB c.toNat <;> cases h2 : ((c.toNat : Int) == 32) <;> simp
  simp only [plc, key]
  cases h : digB c.toNat
  ·cases h2 : ((c.toNat : Int) == 32)
   ·simp
   ·simpa using ih d d' o (i + 1)
  ·simp
theorem plc_dayDigits (a : Int) (ha : a = 1 ∨ a = 4) (ds : List UInt8) (h : ∀ c ∈ ds, digB c.toNat = true) : ∀ (m o i : Int) (r : List UInt8), m + ds.length ≤ 3 → plc a m o i (ds ++ r) = plc a (m + ds.length) o (i + ds.length) r := by
 induction ds with
 | nil => intro m o i r _; simp
 | cons c t ih =>
  intro m o i r hl
  simp only [List.length_cons] at hl
  have hc := h c (by simp)
  have hst : stepS a m o c.toNat = some (a, m + 1, o) := by
   rcases ha with rfl | rfl
   ·rw [stepS_lt (by omega)]; unfold daysS; simp [hc, show m < 3 by omega]
   ·rw [stepS_lt (by omega)]; unfold daysS; simp [hc, show m < 3 by omega]
  rw [List.cons_append, plc_step hst, ih (fun y hy => h y (by simp [hy])) _ _ _ _ (by omega)]
  simp only [List.length_cons]
  congr 1 <;> omega
theorem plc_day (a : Int) (ha : a = 0 ∨ a = 3) (ds : List UInt8) (h : dayS ds) (d o i : Int) (r : List UInt8) : plc a d o i (ds ++ r) = plc (a + 1) ds.length o (i + ds.length) r := by
 obtain ⟨h1, h3, hd⟩ := h
 match ds, h1 with
 | c :: t, _ =>
  have hc := hd c (by simp)
  simp only [List.length_cons] at h3 ⊢
  have hst : stepS a d o c.toNat = some (a + 1, 1, o) := by
   rcases ha with rfl | rfl
   ·rw [stepS_lt (by omega)]; unfold daysS; simp [hc]
   ·rw [stepS_lt (by omega)]; unfold daysS; simp [hc]
  rw [List.cons_append, plc_step hst, plc_dayDigits (a + 1) (by omega) t (fun y hy => hd y (by simp [hy])) _ _ _ _ (by omega)]
  congr 1 <;> omega
theorem plc_dayNo (a : Int) (ha : a = 0 ∨ a = 3) (l : List UInt8) (h : digB (hd l) = false) (hb : ¬ hd l = 32) (d o i : Int) : plc a d o i l = i := by
 cases l with
 | nil => rcases ha with rfl | rfl <;> rfl
 | cons c r =>
  refine plc_stop ?_
  simp only [hd] at h hb
  rcases ha with rfl | rfl
  ·rw [stepS_lt (by omega)]; unfold daysS; simp [h, hb]
  ·rw [stepS_lt (by omega)]; unfold daysS; simp [h, hb]
theorem plc_dayBlanks (a : Int) (ha : a = 1 ∨ a = 4) (x : List UInt8) (hx : Blanks x) (hn : x ≠ []) (m o i : Int) (r : List UInt8) : plc a m o i (x ++ r) = plc (a + 1) m o (i + x.length) r := by
 match x, hn with
 | c :: t, _ =>
  have hc : (c.toNat : Int) = 32 := by have := hx c (by simp); omega
  have hst : stepS a m o c.toNat = some (a + 1, m, o) := by
   rw [hc]
   rcases ha with rfl | rfl
   ·rw [stepS_lt (by omega)]; unfold daysS; simp [digB]
   ·rw [stepS_lt (by omega)]; unfold daysS; simp [digB]
  rw [List.cons_append, plc_step hst, plc_skip (a + 1) (by omega) t (fun y hy => hx y (by simp [hy]))]
  congr 1
  simp; omega
theorem plc_minus (x : List UInt8) (hx : Blanks x) (c : UInt8) (hc : (c.toNat : Int) = 45) (m o i : Int) (r : List UInt8) : plc 1 m o i (x ++ c :: r) = plc 3 0 o (i + x.length + 1) r := by
 have h1 : ∀ a : Int, a = 1 ∨ a = 2 → ∀ j, plc a m o j (c :: r) = plc 3 0 o (j + 1) r := by
  intro a ha j
  have hst : stepS a m o c.toNat = some (3, m, o) := by
   rw [hc]
   rcases ha with rfl | rfl
   ·rw [stepS_lt (by omega)]; unfold daysS; simp [digB]
   ·rw [stepS_lt (by omega)]; unfold daysS; simp [digB]
  rw [plc_step hst, plc_d0 3 (by simp) r m 0]
 by_cases hn : x = []
 ·subst hn; simpa using h1 1 (by simp) i
 ·rw [plc_dayBlanks 1 (by simp) x hx hn, h1 (1 + 1) (by omega)]
theorem plc_minusNo (x l : List UInt8) (hx : Blanks x) (m o i : Int) (hm : 3 ≤ m ∨ digB (hd (x ++ l)) = false) (hb : ¬ hd l = 32) (hc : ¬ hd l = 45) : plc 1 m o i (x ++ l) = i + x.length := by
 by_cases hn : x = []
 ·subst hn
  simp only [List.nil_append] at hm ⊢
  cases l with
  | nil => simp [plc]
  | cons c r =>
   simp only [hd] at hm hb hc
   rw [plc_stop]
   ·simp
   ·rw [stepS_lt (by omega)]; unfold daysS
    rcases hm with hm | hm
    ·simp [show ¬ m < 3 by omega, hb, hc]
    ·simp [hm, hb, hc]
 ·rw [plc_dayBlanks 1 (by simp) x hx hn]
  cases l with
  | nil => simp [plc]
  | cons c r =>
   simp only [hd] at hb hc
   refine plc_stop ?_
   rw [stepS_lt (by omega)]; unfold daysS; simp [hb, hc]
theorem plc_comma (x : List UInt8) (hx : Blanks x) (c : UInt8) (hc : (c.toNat : Int) = 44) (m o i : Int) (r : List UInt8) : plc 4 m o i (x ++ c :: r) = plc 0 0 o (i + x.length + 1) r := by
 have h1 : ∀ a : Int, a = 4 ∨ a = 5 → ∀ j, plc a m o j (c :: r) = plc 0 0 o (j + 1) r := by
  intro a ha j
  have hst : stepS a m o c.toNat = some (0, m, o) := by
   rw [hc]
   rcases ha with rfl | rfl
   ·rw [stepS_lt (by omega)]; unfold daysS; simp [digB]
   ·rw [stepS_lt (by omega)]; unfold daysS; simp [digB]
  rw [plc_step hst, plc_d0 0 (by simp) r m 0]
 by_cases hn : x = []
 ·subst hn; simpa using h1 4 (by simp) i
 ·rw [plc_dayBlanks 4 (by simp) x hx hn, h1 (4 + 1) (by omega)]
theorem plc_bar (x : List UInt8) (hx : Blanks x) (c : UInt8) (hc : (c.toNat : Int) = 124) (m o i : Int) (r : List UInt8) : plc 4 m o i (x ++ c :: r) = plc 6 0 o (i + x.length + 1) r := by
 have h1 : ∀ a : Int, a = 4 ∨ a = 5 → ∀ j, plc a m o j (c :: r) = plc 6 0 o (j + 1) r := by
  intro a ha j
  have hst : stepS a m o c.toNat = some (6, m, o) := by
   rw [hc]
   rcases ha with rfl | rfl
   ·rw [stepS_lt (by omega)]; unfold daysS; simp [digB]
   ·rw [stepS_lt (by omega)]; unfold daysS; simp [digB]
  rw [plc_step hst, plc_d r 6 m 0 _ _ (by simp)]
 by_cases hn : x = []
 ·subst hn; simpa using h1 4 (by simp) i
 ·rw [plc_dayBlanks 4 (by simp) x hx hn, h1 (4 + 1) (by omega)]
theorem plc_barNo (x l : List UInt8) (hx : Blanks x) (m o i : Int) (hm : 3 ≤ m ∨ digB (hd (x ++ l)) = false) (hb : ¬ hd l = 32) (hc : ¬ hd l = 44) (hc2 : ¬ hd l = 124) : plc 4 m o i (x ++ l) = i + x.length := by
 by_cases hn : x = []
 ·subst hn
  simp only [List.nil_append] at hm ⊢
  cases l with
  | nil => simp [plc]
  | cons c r =>
   simp only [hd] at hm hb hc hc2
   rw [plc_stop]
   ·simp
   ·rw [stepS_lt (by omega)]; unfold daysS
    rcases hm with hm | hm
    ·simp [show ¬ m < 3 by omega, hb, hc, hc2]
    ·simp [hm, hb, hc, hc2]
 ·rw [plc_dayBlanks 4 (by simp) x hx hn]
  cases l with
  | nil => simp [plc]
  | cons c r =>
   simp only [hd] at hb hc hc2
   refine plc_stop ?_
   rw [stepS_lt (by omega)]; unfold daysS; simp [hb, hc, hc2]
def Per (l : List UInt8) (ok : Bool) (l' : List UInt8) (a b : List UInt8) : Prop :=
 ∃ x, l = x ++ l' ∧ (ok = true → dayS a ∧ dayS b ∧ bare x = a ++ 45 :: b ∧ (b.length = 3 ∨ digB (hd l') = false) ∧ ∀ o i : Int, plc 0 0 o i l = plc 4 b.length o (i + x.length) l') ∧
  (ok = false → ∀ o i : Int, plc 0 0 o i l = i + x.length)
theorem bare_digs {ds : List UInt8} (h : ∀ c ∈ ds, digB c.toNat = true) : bare ds = ds := by
 unfold bare; rw [List.filter_eq_self]; intro c hc
 have := h c hc
 simp [digB] at this
 simp; omega
theorem u8_45 {c : UInt8} (h : (c.toNat : Int) = 45) : c = 45 := UInt8.toNat_inj.1 (by simp; omega)
theorem per_no1 {x l' a b : List UInt8} (hx : Blanks x) (h : digB (hd l') = false) (hb : ¬ hd l' = 32) : Per (x ++ l') false l' a b := by
 refine ⟨x, rfl, (fun h0 => by cases h0), fun _ o i => ?_⟩
 rw [plc_skip 0 (by simp) x hx, plc_dayNo 0 (by simp) l' h hb]
theorem per_no2 {x ds y l' a b : List UInt8} (hx : Blanks x) (hd1 : dayS ds) (hst : ds.length = 3 ∨ digB (hd (y ++ l')) = false) (hy : Blanks y) (hb : ¬ hd l' = 32) (hc : ¬ hd l' = 45) : Per (x ++ (ds ++ (y ++ l'))) false l' a b := by
 refine ⟨x ++ ds ++ y, by simp, (fun h0 => by cases h0), fun _ o i => ?_⟩
 rw [plc_skip 0 (by simp) x hx, plc_day 0 (by simp) ds hd1, show (0 : Int) + 1 = 1 from rfl, plc_minusNo y l' hy _ _ _ (by rcases hst with h | h; left; omega; right; exact h) hb hc]
 simp; omega
theorem per_no3 {x ds y z l' a b : List UInt8} {c : UInt8} (hx : Blanks x) (hd1 : dayS ds) (hy : Blanks y) (hc : (c.toNat : Int) = 45) (hz : Blanks z) (h : digB (hd l') = false) (hb : ¬ hd l' = 32) : Per (x ++ (ds ++ (y ++ c :: (z ++ l')))) false l' a b := by
 refine ⟨x ++ ds ++ y ++ [c] ++ z, by simp, (fun h0 => by cases h0), fun _ o i => ?_⟩
 rw [plc_skip 0 (by simp) x hx, plc_day 0 (by simp) ds hd1, show (0 : Int) + 1 = 1 from rfl, plc_minus y hy c hc, plc_skip 3 (by simp) z hz, plc_dayNo 3 (by simp) l' h hb]
 simp; omega
theorem per_yes {x a y z b l' : List UInt8} {c : UInt8} (hx : Blanks x) (ha : dayS a) (hy : Blanks y) (hc : (c.toNat : Int) = 45) (hz : Blanks z) (hb : dayS b) (hst : b.length = 3 ∨ digB (hd l') = false) : Per (x ++ (a ++ (y ++ c :: (z ++ (b ++ l'))))) true l' a b := by
 refine ⟨x ++ a ++ y ++ [c] ++ z ++ b, by simp, fun _ => ⟨ha, hb, ?_, hst, fun o i => ?_⟩, (fun h0 => by cases h0)⟩
 ·simp only [bare_append, bare_blanks hx, bare_blanks hy, bare_blanks hz, bare_digs ha.2.2, bare_digs hb.2.2, u8_45 hc]
  simp
  rfl
 ·rw [plc_skip 0 (by simp) x hx, plc_day 0 (by simp) a ha, show (0 : Int) + 1 = 1 from rfl, plc_minus y hy c hc, plc_skip 3 (by simp) z hz, plc_day 3 (by simp) b hb, show (3 : Int) + 1 = 4 from rfl]
  congr 1
  simp; omega
end Db
namespace Go.Proofs.YtdchbenfccofpaaGreatDoor
open Go.RowKit Db
theorem dg_day {l ds l' : List UInt8} (h : Dg 3 l ds l') (h0 : 0 < ds.length) : dayS ds := ⟨h0, h.le, h.dig⟩
theorem dg_none {m : Nat} {l ds l' : List UInt8} (h : Dg m l ds l') (h0 : ¬ 0 < ds.length) (hm : 0 < m) : digB (hd l') = false ∧ l = l' := by
 have hz : ds = [] := by cases ds with | nil => rfl | cons => simp at h0
 subst hz
 refine ⟨?_, h.eq⟩
 rcases h.stop with h | h
 ·simp at h; omega
 ·exact h
theorem Rd.fresh {w : World} {b : Nat} {t : ByteArray} {a : Nat} {v : Value} {ps : List Pt} (h : Rd w b t a v ps) : ∀ j, w.heap.size ≤ j → ¬ XR b v j := by
 rintro j hj (rfl | e)
 ·have := h.blk.lt; omega
 ·have := (h.own.lt j e.symm).2; omega
theorem oSetOther {w : World} {base : Nat} {e : TypeId} {size : Nat} {v : Value} {n : Nat} {xs : List Value} (h : w.ownsRow base e size v n xs) {a : Addr} (ha : some a.block ≠ v.ownBlock) (u : Value) : (w.setCell a u).ownsRow base e size v n xs := by
 refine ⟨h.1, ?_⟩
 rcases h.2 with hn | ⟨g, cap, cur, rfl, hbg, hgg, rest⟩
 ·exact .inl hn
 ·exact .inr ⟨g, cap, cur, rfl, hbg, by rw [Below.heap_setCell _ _ _ _ (fun e => ha (by rw [← e]; rfl))]; exact hgg, rest⟩
theorem RdR.localSet {b : Nat} {t : ByteArray} {v v' : Value} {w w1 : World} {a : Nat} {ps : List Pt} (h : RdR b t v w w1 a v' ps) {j : Nat} (hj : w.heap.size ≤ j) (hx : ¬ XR b v' j) (i : Nat) (u : Value) : RdR b t v w (w1.setCell ⟨j, i, none⟩ u) a v' ps :=
 ⟨⟨h.rd.blk.setOther _ _ (fun e => hx (.inl e.symm)), oSetOther h.rd.own (fun e => hx (.inr e)) _, h.rd.le, h.rd.cnt, h.rd.sz⟩, h.frm.setCell (.inl hj) _, h.own⟩
theorem period_any (b : Nat) (t : ByteArray) (p : Nat) (v : Value) (ps : List Pt) (w : World) (h : Rd w b t p v ps) :
  Calls Tryz.prog 172 #[.pointer (some ⟨b, 0, none⟩)] w fun e w' => ∃ ok x y p' da db, e = .returned (.tuple #[.agg #[.int .i64 x, .int .i64 y], .bool ok]) ∧
   Per ((L t).drop p) ok ((L t).drop p') da db ∧ (ok = true → x = val da ∧ y = val db) ∧ p ≤ p' ∧ RdR b t v w w' p' v ps := by
 have Hfr := hI h.fresh
 have H0 := hI (h.below ((Below.refl _ _).alloc (Nat.le_refl _) (.cells #[.int .i64 0, .int .i64 0] 177)))
 clear h
 go_enter Tryz.func172, Tryz.ntmps172
 go_wp2_with fail
 refine (day_any b t p v ps _ H0.u.rd).mono ?_
 rintro e w1 ⟨x1, d1, q1, p1, rfl, hs1, hg1, he1, hr1⟩
 have HB1 : Hid (Blk w1 w.heap.size #[.int .i64 0, .int .i64 0] 177) := (Blk.new _ _ _).frm hr1.frm (by simp) (Hfr.u _ (Nat.le_refl _))
 have H1 := hI (H0.u.trans hr1)
 have Hs1 := hI hs1
 have Hg1 := hI hg1
 have He1 := hI he1
 have c0 := HB1.u.cell 0
 have c1 := HB1.u.cell 1
 have z0 := HB1.u.frozen 0
 have z1 := HB1.u.frozen 1
 simp only [List.getElem?_toArray, List.getElem?_cons_zero, List.getElem?_cons_succ] at c0 c1
 clear hs1 hg1 he1 hr1
 by_cases hd1 : 0 < d1.length
 ·have e1 : decide (0 < d1.length) = true := decide_eq_true hd1
  rw [e1]
  clear e1
  have Hd1 := hI (dg_day Hg1.u hd1)
  clear hd1
  go_wp2_with fail
  refine (accept_any b t p1 v ps 45 _ H1.u.rd (by omega)).mono ?_
  rintro e w2 ⟨p2, x2, hs2, ⟨hn2, rfl, hr2⟩ | ⟨y2, hy2, hl2, rfl, hr2⟩⟩
  ·have HB2 := hI (HB1.u.frm hr2.frm HB1.u.lt (Hfr.u _ (Nat.le_refl _)))
   have H2 := hI (H1.u.trans hr2)
   have Hs2 := hI hs2
   have Hn2 := hI hn2
   have c0 := HB2.u.cell 0
   have c1 := HB2.u.cell 1
   have z0 := HB2.u.frozen 0
   have z1 := HB2.u.frozen 1
   simp only [List.getElem?_toArray, List.getElem?_cons_zero, List.getElem?_cons_succ] at c0 c1
   clear hs2 hn2 hr2
   go_wp2_with fail
   refine bodyPost_ret (v := .tuple #[.agg #[.int .i64 0, .int .i64 0], .bool false]) (by simp [results, Tryz.results172, go_sem, c0, c1]) rfl ⟨false, 0, 0, p2, [], [], rfl, ?_, (fun h0 => by cases h0), ?_, ?_⟩
   ·rw [Hs1.u.eq, Hg1.u.eq, Hs2.u.eq]
    exact per_no2 Hs1.u.bl Hd1.u (by rw [← Hs2.u.eq]; exact Hg1.u.stop) Hs2.u.bl Hs2.u.nb Hn2.u
   ·have h1 := Hs1.u.le; have h2 := He1.u; have h3 := Hs2.u.le; omega
   ·exact (H2.u.localSet (Nat.le_refl _) (Hfr.u _ (Nat.le_refl _)) _ _).localSet (Nat.le_refl _) (Hfr.u _ (Nat.le_refl _)) _ _
  ·have HB2 := hI (HB1.u.frm hr2.frm HB1.u.lt (Hfr.u _ (Nat.le_refl _)))
   have H2 := hI (H1.u.trans hr2)
   have Hs2 := hI hs2
   have Hy2 := hI hy2
   have Hl2 := hI hl2
   clear hs2 hr2 hy2 hl2 c0 c1 z0 z1
   go_wp2_with fail
   refine (day_any b t (p2 + 1) v ps _ H2.u.rd).mono ?_
   rintro e w3 ⟨x3, d3, q3, p3, rfl, hs3, hg3, he3, hr3⟩
   have HB3 := hI (HB2.u.frm hr3.frm HB2.u.lt (Hfr.u _ (Nat.le_refl _)))
   have H3 := hI (H2.u.trans hr3)
   have Hs3 := hI hs3
   have Hg3 := hI hg3
   have He3 := hI he3
   have c0 := HB3.u.cell 0
   have c1 := HB3.u.cell 1
   have z0 := HB3.u.frozen 0
   have z1 := HB3.u.frozen 1
   simp only [List.getElem?_toArray, List.getElem?_cons_zero, List.getElem?_cons_succ] at c0 c1
   clear hs3 hg3 he3 hr3
   have Hle : Hid (p ≤ p3) := by
    have h1 := Hs1.u.le; have h2 := He1.u; have h3 := Hs2.u.le; have h4 := Hs3.u.le; have h5 := He3.u
    show _ ≤ _
    omega
   by_cases hd3 : 0 < d3.length
   ·have e1 : decide (0 < d3.length) = true := decide_eq_true hd3
    rw [e1]
    clear e1
    have Hd3 := hI (dg_day Hg3.u hd3)
    clear hd3
    go_wp2_with fail
    refine bodyPost_ret (v := .tuple #[.agg #[.int .i64 (val d1), .int .i64 (val d3)], .bool true]) (by simp [results, Tryz.results172, go_sem, c0, c1]) rfl ⟨true, _, _, p3, d1, d3, rfl, ?_, fun _ => ⟨rfl, rfl⟩, Hle.u, ?_⟩
    ·rw [Hs1.u.eq, Hg1.u.eq, Hs2.u.eq, Hl2.u, Hs3.u.eq, Hg3.u.eq]
     exact per_yes Hs1.u.bl Hd1.u Hs2.u.bl Hy2.u Hs3.u.bl Hd3.u Hg3.u.stop
    ·exact (H3.u.localSet (Nat.le_refl _) (Hfr.u _ (Nat.le_refl _)) _ _).localSet (Nat.le_refl _) (Hfr.u _ (Nat.le_refl _)) _ _
   ·have e1 : decide (0 < d3.length) = false := decide_eq_false hd3
    rw [e1]
    clear e1
    have Hz := hI (dg_none (m := 3) Hg3.u hd3 (by omega))
    clear hd3
    go_wp2_with fail
    refine bodyPost_ret (v := .tuple #[.agg #[.int .i64 0, .int .i64 0], .bool false]) (by simp [results, Tryz.results172, go_sem, c0, c1]) rfl ⟨false, 0, 0, p3, [], [], rfl, ?_, (fun h0 => by cases h0), Hle.u, ?_⟩
    ·rw [Hs1.u.eq, Hg1.u.eq, Hs2.u.eq, Hl2.u, Hs3.u.eq, Hz.u.2]
     exact per_no3 Hs1.u.bl Hd1.u Hs2.u.bl Hy2.u Hs3.u.bl Hz.u.1 (by rw [← Hz.u.2]; exact Hs3.u.nb)
    ·exact (H3.u.localSet (Nat.le_refl _) (Hfr.u _ (Nat.le_refl _)) _ _).localSet (Nat.le_refl _) (Hfr.u _ (Nat.le_refl _)) _ _
 ·have e1 : decide (0 < d1.length) = false := decide_eq_false hd1
  rw [e1]
  clear e1
  have Hz := hI (dg_none (m := 3) Hg1.u hd1 (by omega))
  clear hd1
  go_wp2_with fail
  refine bodyPost_ret (v := .tuple #[.agg #[.int .i64 0, .int .i64 0], .bool false]) (by simp [results, Tryz.results172, go_sem, c0, c1]) rfl ⟨false, 0, 0, p1, [], [], rfl, ?_, (fun h0 => by cases h0), ?_, ?_⟩
  ·rw [Hs1.u.eq, Hz.u.2]
   exact per_no1 Hs1.u.bl Hz.u.1 (by rw [← Hz.u.2]; exact Hs1.u.nb)
  ·have h1 := Hs1.u.le; have h2 := He1.u; omega
  ·exact (H1.u.localSet (Nat.le_refl _) (Hfr.u _ (Nat.le_refl _)) _ _).localSet (Nat.le_refl _) (Hfr.u _ (Nat.le_refl _)) _ _
end Go.Proofs.YtdchbenfccofpaaGreatDoor
namespace Db
structure PerSt (l l' : List UInt8) (pd : List (List UInt8 × List UInt8)) : Prop where
 ex : ∃ x, l = x ++ l' ∧ (∀ i : Int, plc 0 0 0 i l = plc 0 0 0 (i + x.length) l') ∧ (∀ r, split (bare x ++ r) 44 = pd.map (fun p => p.1 ++ 45 :: p.2) ++ split r 44) ∧ ∀ c ∈ bare x, ¬ c.toNat = 124
 days : ∀ p ∈ pd, dayS p.1 ∧ dayS p.2
structure PerEnd (l : List UInt8) (ok : Bool) (l' : List UInt8) (pd : List (List UInt8 × List UInt8)) : Prop where
 ex : ∃ x, l = x ++ l' ∧ (ok = true → (∀ i : Int, plc 0 0 0 i l = plc 6 0 0 (i + x.length) l') ∧ ∃ y, bare x = y ++ [124] ∧ split y 44 = pd.map (fun p => p.1 ++ 45 :: p.2) ∧ ∀ c ∈ y, ¬ c.toNat = 124) ∧
  (ok = false → ∀ i : Int, plc 0 0 0 i l = i + x.length)
 days : ok = true → ∀ p ∈ pd, dayS p.1 ∧ dayS p.2
theorem PerSt.start (l : List UInt8) : PerSt l l [] := ⟨⟨[], rfl, fun i => by simp, fun r => by simp [bare], by simp [bare]⟩, by simp⟩
theorem seg_ne {a b : List UInt8} (ha : dayS a) (hb : dayS b) (k : UInt8) (hk : digB k.toNat = false) (h45 : ¬ k = 45) : ∀ c ∈ a ++ 45 :: b, c ≠ k := by
 intro c hc
 rw [List.mem_append, List.mem_cons] at hc
 rcases hc with hc | rfl | hc
 ·exact dayS_ne ha k hk c hc
 ·exact fun e => h45 e.symm
 ·exact dayS_ne hb k hk c hc
theorem seg_124 {a b : List UInt8} (ha : dayS a) (hb : dayS b) : ∀ c ∈ a ++ 45 :: b, ¬ c.toNat = 124 := by
 intro c hc h
 exact seg_ne ha hb 124 rfl (by decide) c hc (UInt8.toNat_inj.1 (by rw [h]; rfl))
theorem u8_44 {c : UInt8} (h : (c.toNat : Int) = 44) : c = 44 := UInt8.toNat_inj.1 (by simp; omega)
theorem u8_124 {c : UInt8} (h : (c.toNat : Int) = 124) : c = 124 := UInt8.toNat_inj.1 (by simp; omega)
theorem PerSt.no {l l1 l' : List UInt8} {pd : List (List UInt8 × List UInt8)} {a b : List UInt8} (h : PerSt l l1 pd) (hp : Per l1 false l' a b) (pd' : List (List UInt8 × List UInt8)) : PerEnd l false l' pd' := by
 obtain ⟨x, rfl, h1, h2, h3⟩ := h.ex
 obtain ⟨y, rfl, g1, g2⟩ := hp
 refine ⟨⟨x ++ y, by simp, (fun h0 => by cases h0), fun _ i => ?_⟩, (fun h0 => by cases h0)⟩
 rw [h1, g2 rfl]; simp; omega
theorem PerSt.comma {l l1 y r : List UInt8} {pd : List (List UInt8 × List UInt8)} {a b : List UInt8} {c : UInt8} (h : PerSt l l1 pd) (hp : Per l1 true (y ++ c :: r) a b) (hy : Blanks y) (hc : (c.toNat : Int) = 44) : PerSt l r (pd ++ [(a, b)]) := by
 obtain ⟨x, rfl, h1, h2, h3⟩ := h.ex
 obtain ⟨z, rfl, g1, g2⟩ := hp
 obtain ⟨ha, hb, hbare, hst, hplc⟩ := g1 rfl
 refine ⟨⟨x ++ z ++ y ++ [c], by simp, fun i => ?_, fun q => ?_, ?_⟩, ?_⟩
 ·rw [h1, hplc, plc_comma y hy c hc]
  congr 1
  simp; omega
 ·simp only [bare_append, hbare, bare_blanks hy, u8_44 hc, List.append_nil]
  rw [show bare [44] = [44] from rfl]
  simp only [List.append_assoc]
  rw [h2]
  rw [show (a ++ ((45 :: b) ++ ([44] ++ q))) = (a ++ 45 :: b) ++ 44 :: q by simp, split_cons 44 _ q (seg_ne ha hb 44 rfl (by decide))]
  simp
 ·intro k hk
  simp only [bare_append, hbare, bare_blanks hy, u8_44 hc, List.append_nil, List.mem_append] at hk
  rcases hk with (hk | hk) | hk
  ·exact h3 k hk
  ·exact seg_124 ha hb k (by simpa using hk)
  ·rw [show bare [44] = [44] from rfl] at hk
   simp at hk; subst hk; decide
 ·intro p hp
  simp at hp
  rcases hp with hp | rfl
  ·exact h.days p hp
  ·exact ⟨ha, hb⟩
theorem PerSt.bar {l l1 y r : List UInt8} {pd : List (List UInt8 × List UInt8)} {a b : List UInt8} {c : UInt8} (h : PerSt l l1 pd) (hp : Per l1 true (y ++ c :: r) a b) (hy : Blanks y) (hc : (c.toNat : Int) = 124) : PerEnd l true r (pd ++ [(a, b)]) := by
 obtain ⟨x, rfl, h1, h2, h3⟩ := h.ex
 obtain ⟨z, rfl, g1, g2⟩ := hp
 obtain ⟨ha, hb, hbare, hst, hplc⟩ := g1 rfl
 refine ⟨⟨x ++ z ++ y ++ [c], by simp, fun _ => ⟨fun i => ?_, bare x ++ (a ++ 45 :: b), ?_, ?_, ?_⟩, (fun h0 => by cases h0)⟩, ?_⟩
 ·rw [h1, hplc, plc_bar y hy c hc]
  congr 1
  simp; omega
 ·simp only [bare_append, hbare, bare_blanks hy, u8_124 hc, List.append_nil]
  rw [show bare [124] = [124] from rfl]
 ·rw [h2, split_one 44 _ (seg_ne ha hb 44 rfl (by decide))]
  simp
 ·intro k hk
  rw [List.mem_append] at hk
  rcases hk with hk | hk
  ·exact h3 k hk
  ·exact seg_124 ha hb k hk
 ·intro _ p hp
  simp at hp
  rcases hp with hp | rfl
  ·exact h.days p hp
  ·exact ⟨ha, hb⟩
theorem PerSt.nobar {l l1 y l' : List UInt8} {pd : List (List UInt8 × List UInt8)} {a b : List UInt8} (h : PerSt l l1 pd) (hp : Per l1 true (y ++ l') a b) (hy : Blanks y) (h32 : ¬ hd l' = 32) (h44 : ¬ hd l' = 44) (h124 : ¬ hd l' = 124) (pd' : List (List UInt8 × List UInt8)) : PerEnd l false l' pd' := by
 obtain ⟨x, rfl, h1, h2, h3⟩ := h.ex
 obtain ⟨z, rfl, g1, g2⟩ := hp
 obtain ⟨ha, hb, hbare, hst, hplc⟩ := g1 rfl
 refine ⟨⟨x ++ z ++ y, by simp, (fun h0 => by cases h0), fun _ i => ?_⟩, (fun h0 => by cases h0)⟩
 rw [h1, hplc, plc_barNo y l' hy _ _ _ (by rcases hst with h | h; left; omega; right; exact h) h32 h44 h124]
 simp; omega
end Db
namespace Go.Proofs.YtdchbenfccofpaaGreatDoor
open Go.RowKit Db
theorem RdR.alloc {b : Nat} {t : ByteArray} {v v' : Value} {w w1 : World} {a : Nat} {ps : List Pt} (h : RdR b t v w w1 a v' ps) (o : Obj) : RdR b t v w (w1.alloc o) a v' ps :=
 h.trans (h.rd.below ((Below.refl _ _).alloc (Nat.le_refl _) o))
theorem RdR.grown {b : Nat} {t : ByteArray} {v v' : Value} {w w1 w2 : World} {a : Nat} {ps : List Pt} {row : Option Nat} (h : RdR b t v w w1 a v' ps) (hg : w1.grownBy w2 row) (hr : ∀ k, row = some k → w.heap.size ≤ k ∧ ¬ XR b v' k) : RdR b t v w w2 a v' ps := by
 refine ⟨⟨h.rd.blk.grown hg ?_, h.rd.own.kept hg ?_, h.rd.le, h.rd.cnt, h.rd.sz⟩, h.frm.grown hg h.frm.size (fun k hk => .inl (hr k hk).1), h.own⟩
 ·intro e; exact (hr b e.symm).2 (.inl rfl)
 ·cases hv : v'.ownBlock with
  | none => exact .inl rfl
  | some k => exact .inr (fun e => (hr k e.symm).2 (.inr hv.symm))
theorem cell_two_new' (w : World) (n : Nat) (hn : n = w.heap.size) (x y : Value) (t : TypeId) : ∀ j u, [x, y][j]? = some u → (w.alloc (.cells #[x, y] t)).cell? ((⟨n, 0, none⟩ : Addr).add j) = some u := by
 subst hn; exact cell_two_new w x y t
def cellsD (pd : List (List UInt8 × List UInt8)) : List Value := pd.flatMap fun p => [.int .i64 (val p.1), .int .i64 (val p.2)]
theorem cellsD_append (p q : List (List UInt8 × List UInt8)) : cellsD (p ++ q) = cellsD p ++ cellsD q := by simp [cellsD]
theorem info_period : (Tryz.prog.info? 177).map (fun i => (i.zero, i.size, i.bytes)) = some (some (.agg #[.int .i64 0, .int .i64 0]), 2, 16) := by kernel_rfl
theorem per_lt {t : ByteArray} {k k1 : Nat} {a b : List UInt8} (h : Per ((L t).drop k) true ((L t).drop k1) a b) (hk : k ≤ t.size) (hk1 : k1 ≤ t.size) : k < k1 := by
 obtain ⟨x, hx, h1, _⟩ := h
 have hb := (h1 rfl).2.2.1
 have hl := congrArg List.length hx
 simp only [List.length_append, List.length_drop, L_length] at hl
 have hn : 0 < x.length := by
  cases x with
  | nil => exact absurd hb (by simp [bare])
  | cons => simp
 omega
theorem skp_same {t : ByteArray} {p p' : Nat} {x : List UInt8} (h : Skp t p p' x) (hb : ¬ hd ((L t).drop p) = 32) : (L t).drop p = (L t).drop p' := by
 have he := h.eq
 match x, h.bl with
 | [], _ => simpa using he
 | c :: r, hbl =>
  rw [he] at hb
  exact absurd (by have := hbl c (by simp); simp [hd]; omega) hb
def PLoop (l : List UInt8) (more : Bool) (l' : List UInt8) (pd : List (List UInt8 × List UInt8)) : Prop :=
 (more = true → PerSt l l' pd) ∧ (more = false → ∃ l1 pd0 a b y, PerSt l l1 pd0 ∧ Per l1 true (y ++ l') a b ∧ Blanks y ∧ ¬ hd l' = 32 ∧ ¬ hd l' = 44 ∧ pd = pd0 ++ [(a, b)])
theorem periods_any (b : Nat) (t : ByteArray) (p : Nat) (v : Value) (ps : List Pt) (w : World) (h : Rd w b t p v ps) :
   Calls Tryz.prog 127 #[.pointer (some ⟨b, 0, none⟩)] w fun e w' => ∃ ok vp p' pd, e = .returned (.tuple #[vp, .bool ok]) ∧ PerEnd ((L t).drop p) ok ((L t).drop p') pd ∧
     (ok = true → w'.ownsRow w.heap.size 177 2 vp pd.length (cellsD pd)) ∧ (ok = false → vp = .slice none 0 0) ∧ p ≤ p' ∧ RdR b t v w w' p' v ps := by
 obtain ⟨ii, hi, hz0, hz1, hz2⟩ := info_parts info_period
 have hsz := h.sz
 have Hfr := hI h.fresh
 have H := hI h
 clear h
 go_enter Tryz.func127, Tryz.ntmps127
 go_wp2_with fail
 go_loopg [4, 5] (2 * (t.size - p) + 1) (fun m vp mo wr => ∃ k, ∃ more : Bool, ∃ pd, p ≤ k ∧ k ≤ t.size ∧ m = 2 * (t.size - k) + (if more then 1 else 0) ∧ mo = .bool more ∧ pd.length ≤ k ∧ Hid (PLoop ((L t).drop p) more ((L t).drop k) pd) ∧
     Hid (wr.ownsRow w.heap.size 177 2 vp pd.length (cellsD pd)) ∧ Hid (RdR b t v w wr k v ps))
 case atStart => exact ⟨p, true, [], Nat.le_refl _, H.u.le, rfl, rfl, Nat.zero_le _, ⟨fun _ => PerSt.start _, (fun h0 => by cases h0)⟩, World.ownsRow_nil _ _ _ _, RdR.refl H.u⟩
 case round =>
   obtain ⟨k, more, pd, hpk, hk, rfl, rfl, hpl, Hl, Ho, Hr⟩ := hrel
   have hwr := Hr.u.frm.size
   obtain ⟨aop, capp, hvp⟩ := oForm Ho.u
   subst hvp
   cases more with
   | true =>
     go_wp2_with fail
     refine (period_any b t k v ps _ Hr.u.rd).mono ?_
     rintro e w1 ⟨ok, x, y, k1, da, db, rfl, hper, hval, hle, hr1⟩
     have H1 := hI (Hr.u.trans hr1)
     have Ho1 := hI (oFrm Ho.u hr1.frm (fun j hj => ⟨(Ho.u.lt j hj).2, Hfr.u j (Ho.u.lt j hj).1⟩))
     have hk1 := hr1.rd.le
     have Hper := hI hper
     clear hr1 hper
     cases ok with
     | false =>
       clear hval
       go_wp2_with fail
       go_ret2
       exact ⟨false, _, k1, [], rfl, (Hl.u.1 rfl).no Hper.u [], (fun h0 => by cases h0), fun _ => rfl, by omega, H1.u.alloc _⟩
     | true =>
       obtain ⟨rfl, rfl⟩ := hval rfl
       clear hval
       have hsz1 := H1.u.frm.size
       go_wp2_with (first
         | (at_builtin; refine wpList_append_own_at _ rfl (.tmp 18) (.tmp 20) 107 rfl w.heap.size 177 ii (.agg #[.int .i64 0, .int .i64 0]) 2 16 Tryz.underlying107 hi hz0 hz1 hz2 rfl (by decide) (.slice aop pd.length capp) pd.length _ rfl ((Ho1.u.alloc _).alloc _) ⟨w1.heap.size + 1, 0, none⟩ 1 1 [.int .i64 (val da), .int .i64 (val db)] rfl rfl (cell_two_new' _ _ (by simp) _ _ _) (fun x hx => by simp at hx; rcases hx with rfl | rfl <;> rfl) (by unfold maxLen; omega) (by omega) (by simp; omega) ?_; intro vp' w5 hown5 hgr5 _ hat5; obtain ⟨gf, cf, rfl, hgf, hgf'⟩ := oSome hown5 (Nat.succ_pos _)))
       have Ho5 : Hid (w5.ownsRow w.heap.size 177 2 (.slice (some ⟨gf, 0, none⟩) (pd.length + 1) cf) (pd ++ [(da, db)]).length (cellsD (pd ++ [(da, db)]))) := by
         show World.ownsRow _ _ _ _ _ _ _
         rw [cellsD_append]
         simpa [cellsD] using hown5
       have H5 := hI (((H1.u.alloc _).alloc _).grown hgr5 (fun j hj => ⟨(Ho1.u.lt j hj).1, Hfr.u j (Ho1.u.lt j hj).1⟩))
       have Hl1 := hI (Hl.u.1 rfl)
       clear hown5 hgr5 hat5
       go_wp2_with fail
       refine (accept_any b t k1 v ps 44 _ H5.u.rd (by omega)).mono ?_
       rintro e w6 ⟨k2, x2, hs2, ⟨hn2, rfl, hr2⟩ | ⟨y2, hy2, hl2, rfl, hr2⟩⟩
       · have H6 := hI (H5.u.trans hr2)
         have Ho6 := hI (oFrm Ho5.u hr2.frm (fun j hj => ⟨(Ho5.u.lt j hj).2, Hfr.u j (Ho5.u.lt j hj).1⟩))
         have hk2 := hr2.rd.le
         have Hs2 := hI hs2
         have Hn2 := hI hn2
         clear hs2 hn2 hr2
         go_wp2_with fail
         have hle2 := Hs2.u.le
         go_roundg (2 * (t.size - k2) + 0)
         case measure => simp; omega
         case rel =>
           refine ⟨k2, false, pd ++ [(da, db)], by omega, hk2, by simp, rfl, ?_, ⟨(fun h0 => by cases h0), fun _ => ⟨_, pd, da, db, x2, Hl1.u, by rw [← Hs2.u.eq]; exact Hper.u, Hs2.u.bl, Hs2.u.nb, Hn2.u, rfl⟩⟩, Ho6.u, H6.u⟩
           have := per_lt Hper.u hk hk1
           simp; omega
       · have H6 := hI (H5.u.trans hr2)
         have Ho6 := hI (oFrm Ho5.u hr2.frm (fun j hj => ⟨(Ho5.u.lt j hj).2, Hfr.u j (Ho5.u.lt j hj).1⟩))
         have hk2 := hr2.rd.le
         have Hs2 := hI hs2
         have Hy2 := hI hy2
         have Hl2 := hI hl2
         clear hs2 hy2 hl2 hr2
         go_wp2_with fail
         have hle2 := Hs2.u.le
         go_roundg (2 * (t.size - (k2 + 1)) + 1)
         case measure => simp; omega
         case rel =>
           refine ⟨k2 + 1, true, pd ++ [(da, db)], by omega, hk2, by simp, rfl, by simp; omega, ⟨fun _ => Hl1.u.comma (c := y2) (y := x2) (by rw [← Hl2.u, ← Hs2.u.eq]; exact Hper.u) Hs2.u.bl Hy2.u, (fun h0 => by cases h0)⟩, Ho6.u, H6.u⟩
   | false =>
     obtain ⟨l1, pd0, da, db, y, hst, hper, hy, h32, h44, rfl⟩ := Hl.u.2 rfl
     have Hst := hI hst
     have Hper := hI hper
     have Hy := hI hy
     have H32 := hI h32
     have H44 := hI h44
     clear hst hper hy h32 h44
     go_wp2_with fail
     refine (accept_any b t k v ps 124 _ Hr.u.rd (by omega)).mono ?_
     rintro e w6 ⟨k2, x2, hs2, ⟨hn2, rfl, hr2⟩ | ⟨y2, hy2, hl2, rfl, hr2⟩⟩
     · have H6 := hI (Hr.u.trans hr2)
       have Hs2 := hI hs2
       have Hn2 := hI hn2
       clear hs2 hn2 hr2
       go_wp2_with fail
       go_ret2
       have hz := skp_same Hs2.u H32.u
       refine ⟨false, _, k2, [], rfl, ?_, (fun h0 => by cases h0), fun _ => rfl, by have := Hs2.u.le; omega, H6.u⟩
       rw [hz] at Hper H32 H44
       exact Hst.u.nobar Hper.u Hy.u H32.u H44.u Hn2.u []
     · have H6 := hI (Hr.u.trans hr2)
       have Ho6 := hI (oFrm Ho.u hr2.frm (fun j hj => ⟨(Ho.u.lt j hj).2, Hfr.u j (Ho.u.lt j hj).1⟩))
       have Hs2 := hI hs2
       have Hy2 := hI hy2
       have Hl2 := hI hl2
       clear hs2 hy2 hl2 hr2
       go_wp2_with fail
       go_ret2
       have hz := skp_same Hs2.u H32.u
       refine ⟨true, .slice aop (pd0.length + 1) capp, k2 + 1, pd0 ++ [(da, db)], rfl, ?_, fun _ => (by have := Ho6.u; simpa using this), (fun h0 => by cases h0), by have := Hs2.u.le; omega, H6.u⟩
       rw [hz, Hl2.u] at Hper
       exact Hst.u.bar Hper.u Hy.u Hy2.u
end Go.Proofs.YtdchbenfccofpaaGreatDoor
