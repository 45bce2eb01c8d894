/- Own texts of the theorem in YtdchbenfccofpaaGreatDoorWAlY, part 16. -/
import Derived.Test.YtdchbenfccofpaaGreatDoorJ15
import Derived.Test.YtdchbenfccofpaaGreatDoorJ14
import Derived.Test.YtdchbenfccofpaaGreatDoorJ03
set_option maxRecDepth 100000
set_option maxHeartbeats 4000000
namespace Go.Proofs.YtdchbenfccofpaaGreatDoor
open Go.RowKit Db
theorem operand_64 (b : Nat) (t : ByteArray) (p : Nat) (v : Value) (ps : List Pt) (w : World) (h : Rd w b t p v ps) (h1 : hd ((L t).drop p) = 64) :
  Calls Tryz.prog 218 #[.pointer (some ⟨b, 0, none⟩)] w fun e w' => ∃ ok p' v' ps', e = .returned (.bool ok) ∧ Fac ((L t).drop p) ok ((L t).drop p') ps' ∧ p + ps'.length ≤ p' ∧ RdR b t v w w' p' v' (ps ++ ps') := by
 obtain ⟨ii, hi, hz0, hz1, hz2⟩ := info_parts info_part
 have hsz := h.sz
 have H := hI h
 have H1 := hI h1
 clear h h1
 go_enter Tryz.func218, Tryz.ntmps218
 go_wp2_with fail
 refine (next_any b t p v ps _ H.u).mono ?_
 rintro e w1 ⟨p1, x1, rfl, hr1, hs1⟩
 have Heq := hI (skp_same hs1 (by rw [H1.u]; decide))
 rw [← Heq.u, H1.u]
 have hlt : p1 < t.size := by
  by_cases hh : p1 < t.size
  ·exact hh
  ·have h2 := H1.u
   rw [Heq.u, hd_end t p1 (by omega)] at h2
   cases h2
 have Hl := hI (L_drop t p1 hlt)
 have Hc : Hid ((t[p1].toNat : Int) = 64) := by show _ = _; rw [← hd_drop t p1 hlt, ← Heq.u]; exact H1.u
 have c1 := hr1.rd.c1
 have z1 := hr1.rd.z1
 have Hr1 : Hid (RdR b t v w (w1.setCell ⟨b, 1, none⟩ (.int .i64 ((p1 : Int) + 1))) (p1 + 1) v ps) := by
  have := hr1.move (a' := p1 + 1) (by omega) (by have := hr1.rd.cnt; omega)
  show RdR _ _ _ _ _ _ _ _
  simpa using this
 have Hs1 := hI hs1
 clear hr1 hs1
 go_wp2_with fail
 refine (digits_any b t (p1 + 1) v ps 2 _ Hr1.u.rd (by omega)).mono ?_
 rintro e w2 ⟨ds, p2, rfl, hg2, he2, hr2⟩
 have Hg2 := hI hg2
 have He2 := hI he2
 have Hr2 := hI (Hr1.u.trans hr2)
 clear hg2 he2 hr2
 by_cases hd0 : 0 < ds.length
 ·have e1 : decide (0 < ds.length) = true := decide_eq_true hd0
  rw [e1]
  clear e1
  have Hf := hI (sel_yes (c := t[p1]) (by rw [Hc.u]; rfl) Hg2.u hd0)
  have hcnt := Hr2.u.rd.cnt
  have hle := Hr2.u.rd.le
  have Hct : Hid (ps.length + 1 ≤ p2) := by have := H.u.cnt; have := Hs1.u.le; have := He2.u; show _ ≤ _; omega
  obtain ⟨ao, cap, hv⟩ := oForm Hr2.u.rd.own
  subst hv
  have c2 := Hr2.u.rd.c2
  have z2 := Hr2.u.rd.z2
  have hbl := Hr2.u.rd.blk.lt
  have Hd0 := hI hd0
  clear hd0
  go_wp2_with (first
   | (at_builtin; refine wpList_append_own_at _ rfl (.tmp 46) (.tmp 50) 163 rfl (b + 1) 197 ii (.agg #[.int .u8 0, .int .i64 0]) 2 16 Tryz.underlying163 hi hz0 hz1 hz2 rfl (by decide) (.slice ao ps.length cap) ps.length _ rfl (Hr2.u.rd.own.alloc _) ⟨w2.heap.size, 0, none⟩ 1 1 [.int .u8 64, .int .i64 (val ds)] rfl rfl (cell_two_new' _ _ (by simp) _ _ _) (fun x hx => by simp at hx; rcases hx with rfl | rfl <;> rfl) (by unfold maxLen; omega) (by omega) (by simp; omega) ?_; intro v5 w5 hown5 hgr5 _ hat5; obtain ⟨gf, cf, rfl, hgf, hgf'⟩ := oSome hown5 (Nat.succ_pos _); have HB5 := hI ((Hr2.u.rd.blk.alloc _).grown hgr5 (own_ne' Hr2.u.rd.own (Nat.lt_succ_self b))); have y2 := HB5.u.frozen 2; have y3 := HB5.u.cell 2; simp only [List.getElem?_toArray, List.getElem?_cons_zero, List.getElem?_cons_succ] at y3; have Hown5 := hI hown5; have Hgr5 := hI hgr5; have Hat5 := hI hat5; clear hown5 hgr5 hat5 c2 z2))
  go_ret
  refine ⟨true, p2, _, [(64, val ds)], rfl, ?_, by have := Hs1.u.le; have := He2.u; have := Hd0.u; simp; omega, Hr2.u.push _ 64 (val ds) Hown5.u Hgr5.u Hat5.u Hct.u⟩
  have := Hf.u
  rw [Hc.u] at this
  rw [Heq.u, Hl.u]
  exact this
 ·have e1 : decide (0 < ds.length) = false := decide_eq_false hd0
  rw [e1]
  clear e1
  have Hf := hI (sel_no (c := t[p1]) (by rw [Hc.u]; rfl) Hg2.u hd0 [])
  clear hd0
  go_wp2_with fail
  go_ret
  refine ⟨false, p2, v, [], rfl, ?_, by have := Hs1.u.le; have := He2.u; simp; omega, by rw [List.append_nil]; exact Hr2.u⟩
  rw [Heq.u, Hl.u]
  exact Hf.u
theorem operand_33 (b : Nat) (t : ByteArray) (p : Nat) (v : Value) (ps : List Pt) (w : World) (h : Rd w b t p v ps) (h1 : hd ((L t).drop p) = 33) :
  Calls Tryz.prog 218 #[.pointer (some ⟨b, 0, none⟩)] w fun e w' => ∃ ok p' v' ps', e = .returned (.bool ok) ∧ Fac ((L t).drop p) ok ((L t).drop p') ps' ∧ p + ps'.length ≤ p' ∧ RdR b t v w w' p' v' (ps ++ ps') := by
 obtain ⟨ii, hi, hz0, hz1, hz2⟩ := info_parts info_part
 have hsz := h.sz
 have H := hI h
 have H1 := hI h1
 clear h h1
 go_enter Tryz.func218, Tryz.ntmps218
 go_wp2_with fail
 refine (next_any b t p v ps _ H.u).mono ?_
 rintro e w1 ⟨p1, x1, rfl, hr1, hs1⟩
 have Heq := hI (skp_same hs1 (by rw [H1.u]; decide))
 rw [← Heq.u, H1.u]
 have hlt : p1 < t.size := by
  by_cases hh : p1 < t.size
  ·exact hh
  ·have h2 := H1.u
   rw [Heq.u, hd_end t p1 (by omega)] at h2
   cases h2
 have Hl := hI (L_drop t p1 hlt)
 have Hc : Hid ((t[p1].toNat : Int) = 33) := by show _ = _; rw [← hd_drop t p1 hlt, ← Heq.u]; exact H1.u
 have c1 := hr1.rd.c1
 have z1 := hr1.rd.z1
 have Hr1 : Hid (RdR b t v w (w1.setCell ⟨b, 1, none⟩ (.int .i64 ((p1 : Int) + 1))) (p1 + 1) v ps) := by
  have := hr1.move (a' := p1 + 1) (by omega) (by have := hr1.rd.cnt; omega)
  show RdR _ _ _ _ _ _ _ _
  simpa using this
 have Hs1 := hI hs1
 clear hr1 hs1
 go_wp2_with fail
 refine (digits_any b t (p1 + 1) v ps 2 _ Hr1.u.rd (by omega)).mono ?_
 rintro e w2 ⟨ds, p2, rfl, hg2, he2, hr2⟩
 have Hg2 := hI hg2
 have He2 := hI he2
 have Hr2 := hI (Hr1.u.trans hr2)
 clear hg2 he2 hr2
 by_cases hd0 : 0 < ds.length
 ·have e1 : decide (0 < ds.length) = true := decide_eq_true hd0
  rw [e1]
  clear e1
  have Hf := hI (sel_yes (c := t[p1]) (by rw [Hc.u]; rfl) Hg2.u hd0)
  have hcnt := Hr2.u.rd.cnt
  have hle := Hr2.u.rd.le
  have Hct : Hid (ps.length + 1 ≤ p2) := by have := H.u.cnt; have := Hs1.u.le; have := He2.u; show _ ≤ _; omega
  obtain ⟨ao, cap, hv⟩ := oForm Hr2.u.rd.own
  subst hv
  have c2 := Hr2.u.rd.c2
  have z2 := Hr2.u.rd.z2
  have hbl := Hr2.u.rd.blk.lt
  have Hd0 := hI hd0
  clear hd0
  go_wp2_with (first
   | (at_builtin; refine wpList_append_own_at _ rfl (.tmp 46) (.tmp 50) 163 rfl (b + 1) 197 ii (.agg #[.int .u8 0, .int .i64 0]) 2 16 Tryz.underlying163 hi hz0 hz1 hz2 rfl (by decide) (.slice ao ps.length cap) ps.length _ rfl (Hr2.u.rd.own.alloc _) ⟨w2.heap.size, 0, none⟩ 1 1 [.int .u8 33, .int .i64 (val ds)] rfl rfl (cell_two_new' _ _ (by simp) _ _ _) (fun x hx => by simp at hx; rcases hx with rfl | rfl <;> rfl) (by unfold maxLen; omega) (by omega) (by simp; omega) ?_; intro v5 w5 hown5 hgr5 _ hat5; obtain ⟨gf, cf, rfl, hgf, hgf'⟩ := oSome hown5 (Nat.succ_pos _); have HB5 := hI ((Hr2.u.rd.blk.alloc _).grown hgr5 (own_ne' Hr2.u.rd.own (Nat.lt_succ_self b))); have y2 := HB5.u.frozen 2; have y3 := HB5.u.cell 2; simp only [List.getElem?_toArray, List.getElem?_cons_zero, List.getElem?_cons_succ] at y3; have Hown5 := hI hown5; have Hgr5 := hI hgr5; have Hat5 := hI hat5; clear hown5 hgr5 hat5 c2 z2))
  go_ret
  refine ⟨true, p2, _, [(33, val ds)], rfl, ?_, by have := Hs1.u.le; have := He2.u; have := Hd0.u; simp; omega, Hr2.u.push _ 33 (val ds) Hown5.u Hgr5.u Hat5.u Hct.u⟩
  have := Hf.u
  rw [Hc.u] at this
  rw [Heq.u, Hl.u]
  exact this
 ·have e1 : decide (0 < ds.length) = false := decide_eq_false hd0
  rw [e1]
  clear e1
  have Hf := hI (sel_no (c := t[p1]) (by rw [Hc.u]; rfl) Hg2.u hd0 [])
  clear hd0
  go_wp2_with fail
  go_ret
  refine ⟨false, p2, v, [], rfl, ?_, by have := Hs1.u.le; have := He2.u; simp; omega, by rw [List.append_nil]; exact Hr2.u⟩
  rw [Heq.u, Hl.u]
  exact Hf.u
theorem operand_35 (b : Nat) (t : ByteArray) (p : Nat) (v : Value) (ps : List Pt) (w : World) (h : Rd w b t p v ps) (h1 : hd ((L t).drop p) = 35) :
  Calls Tryz.prog 218 #[.pointer (some ⟨b, 0, none⟩)] w fun e w' => ∃ ok p' v' ps', e = .returned (.bool ok) ∧ Fac ((L t).drop p) ok ((L t).drop p') ps' ∧ p + ps'.length ≤ p' ∧ RdR b t v w w' p' v' (ps ++ ps') := by
 obtain ⟨ii, hi, hz0, hz1, hz2⟩ := info_parts info_part
 have hsz := h.sz
 have H := hI h
 have H1 := hI h1
 clear h h1
 go_enter Tryz.func218, Tryz.ntmps218
 go_wp2_with fail
 refine (next_any b t p v ps _ H.u).mono ?_
 rintro e w1 ⟨p1, x1, rfl, hr1, hs1⟩
 have Heq := hI (skp_same hs1 (by rw [H1.u]; decide))
 rw [← Heq.u, H1.u]
 have hlt : p1 < t.size := by
  by_cases hh : p1 < t.size
  ·exact hh
  ·have h2 := H1.u
   rw [Heq.u, hd_end t p1 (by omega)] at h2
   cases h2
 have Hl := hI (L_drop t p1 hlt)
 have Hc : Hid ((t[p1].toNat : Int) = 35) := by show _ = _; rw [← hd_drop t p1 hlt, ← Heq.u]; exact H1.u
 have c1 := hr1.rd.c1
 have z1 := hr1.rd.z1
 have Hr1 : Hid (RdR b t v w (w1.setCell ⟨b, 1, none⟩ (.int .i64 ((p1 : Int) + 1))) (p1 + 1) v ps) := by
  have := hr1.move (a' := p1 + 1) (by omega) (by have := hr1.rd.cnt; omega)
  show RdR _ _ _ _ _ _ _ _
  simpa using this
 have Hs1 := hI hs1
 clear hr1 hs1
 go_wp2_with fail
 refine (digits_any b t (p1 + 1) v ps 2 _ Hr1.u.rd (by omega)).mono ?_
 rintro e w2 ⟨ds, p2, rfl, hg2, he2, hr2⟩
 have Hg2 := hI hg2
 have He2 := hI he2
 have Hr2 := hI (Hr1.u.trans hr2)
 clear hg2 he2 hr2
 by_cases hd0 : 0 < ds.length
 ·have e1 : decide (0 < ds.length) = true := decide_eq_true hd0
  rw [e1]
  clear e1
  have Hf := hI (sel_yes (c := t[p1]) (by rw [Hc.u]; rfl) Hg2.u hd0)
  have hcnt := Hr2.u.rd.cnt
  have hle := Hr2.u.rd.le
  have Hct : Hid (ps.length + 1 ≤ p2) := by have := H.u.cnt; have := Hs1.u.le; have := He2.u; show _ ≤ _; omega
  obtain ⟨ao, cap, hv⟩ := oForm Hr2.u.rd.own
  subst hv
  have c2 := Hr2.u.rd.c2
  have z2 := Hr2.u.rd.z2
  have hbl := Hr2.u.rd.blk.lt
  have Hd0 := hI hd0
  clear hd0
  go_wp2_with (first
   | (at_builtin; refine wpList_append_own_at _ rfl (.tmp 46) (.tmp 50) 163 rfl (b + 1) 197 ii (.agg #[.int .u8 0, .int .i64 0]) 2 16 Tryz.underlying163 hi hz0 hz1 hz2 rfl (by decide) (.slice ao ps.length cap) ps.length _ rfl (Hr2.u.rd.own.alloc _) ⟨w2.heap.size, 0, none⟩ 1 1 [.int .u8 35, .int .i64 (val ds)] rfl rfl (cell_two_new' _ _ (by simp) _ _ _) (fun x hx => by simp at hx; rcases hx with rfl | rfl <;> rfl) (by unfold maxLen; omega) (by omega) (by simp; omega) ?_; intro v5 w5 hown5 hgr5 _ hat5; obtain ⟨gf, cf, rfl, hgf, hgf'⟩ := oSome hown5 (Nat.succ_pos _); have HB5 := hI ((Hr2.u.rd.blk.alloc _).grown hgr5 (own_ne' Hr2.u.rd.own (Nat.lt_succ_self b))); have y2 := HB5.u.frozen 2; have y3 := HB5.u.cell 2; simp only [List.getElem?_toArray, List.getElem?_cons_zero, List.getElem?_cons_succ] at y3; have Hown5 := hI hown5; have Hgr5 := hI hgr5; have Hat5 := hI hat5; clear hown5 hgr5 hat5 c2 z2))
  go_ret
  refine ⟨true, p2, _, [(35, val ds)], rfl, ?_, by have := Hs1.u.le; have := He2.u; have := Hd0.u; simp; omega, Hr2.u.push _ 35 (val ds) Hown5.u Hgr5.u Hat5.u Hct.u⟩
  have := Hf.u
  rw [Hc.u] at this
  rw [Heq.u, Hl.u]
  exact this
 ·have e1 : decide (0 < ds.length) = false := decide_eq_false hd0
  rw [e1]
  clear e1
  have Hf := hI (sel_no (c := t[p1]) (by rw [Hc.u]; rfl) Hg2.u hd0 [])
  clear hd0
  go_wp2_with fail
  go_ret
  refine ⟨false, p2, v, [], rfl, ?_, by have := Hs1.u.le; have := He2.u; simp; omega, by rw [List.append_nil]; exact Hr2.u⟩
  rw [Heq.u, Hl.u]
  exact Hf.u
theorem operand_36 (b : Nat) (t : ByteArray) (p : Nat) (v : Value) (ps : List Pt) (w : World) (h : Rd w b t p v ps) (h1 : hd ((L t).drop p) = 36) :
  Calls Tryz.prog 218 #[.pointer (some ⟨b, 0, none⟩)] w fun e w' => ∃ ok p' v' ps', e = .returned (.bool ok) ∧ Fac ((L t).drop p) ok ((L t).drop p') ps' ∧ p + ps'.length ≤ p' ∧ RdR b t v w w' p' v' (ps ++ ps') := by
 obtain ⟨ii, hi, hz0, hz1, hz2⟩ := info_parts info_part
 have hsz := h.sz
 have H := hI h
 have H1 := hI h1
 clear h h1
 go_enter Tryz.func218, Tryz.ntmps218
 go_wp2_with fail
 refine (next_any b t p v ps _ H.u).mono ?_
 rintro e w1 ⟨p1, x1, rfl, hr1, hs1⟩
 have Heq := hI (skp_same hs1 (by rw [H1.u]; decide))
 rw [← Heq.u, H1.u]
 have hlt : p1 < t.size := by
  by_cases hh : p1 < t.size
  ·exact hh
  ·have h2 := H1.u
   rw [Heq.u, hd_end t p1 (by omega)] at h2
   cases h2
 have Hl := hI (L_drop t p1 hlt)
 have Hc : Hid ((t[p1].toNat : Int) = 36) := by show _ = _; rw [← hd_drop t p1 hlt, ← Heq.u]; exact H1.u
 have c1 := hr1.rd.c1
 have z1 := hr1.rd.z1
 have Hr1 : Hid (RdR b t v w (w1.setCell ⟨b, 1, none⟩ (.int .i64 ((p1 : Int) + 1))) (p1 + 1) v ps) := by
  have := hr1.move (a' := p1 + 1) (by omega) (by have := hr1.rd.cnt; omega)
  show RdR _ _ _ _ _ _ _ _
  simpa using this
 have Hs1 := hI hs1
 clear hr1 hs1
 go_wp2_with fail
 refine (digits_any b t (p1 + 1) v ps 1 _ Hr1.u.rd (by omega)).mono ?_
 rintro e w2 ⟨ds, p2, rfl, hg2, he2, hr2⟩
 have Hg2 := hI hg2
 have He2 := hI he2
 have Hr2 := hI (Hr1.u.trans hr2)
 clear hg2 he2 hr2
 by_cases hd0 : 0 < ds.length
 ·have e1 : decide (0 < ds.length) = true := decide_eq_true hd0
  rw [e1]
  clear e1
  have Hf := hI (old_yes (c := t[p1]) (by rw [Hc.u]; rfl) Hg2.u hd0)
  have hcnt := Hr2.u.rd.cnt
  have hle := Hr2.u.rd.le
  have Hct : Hid (ps.length + 1 ≤ p2) := by have := H.u.cnt; have := Hs1.u.le; have := He2.u; show _ ≤ _; omega
  obtain ⟨ao, cap, hv⟩ := oForm Hr2.u.rd.own
  subst hv
  have c2 := Hr2.u.rd.c2
  have z2 := Hr2.u.rd.z2
  have hbl := Hr2.u.rd.blk.lt
  have Hd0 := hI hd0
  clear hd0
  go_wp2_with (first
   | (at_builtin; refine wpList_append_own_at _ rfl (.tmp 46) (.tmp 50) 163 rfl (b + 1) 197 ii (.agg #[.int .u8 0, .int .i64 0]) 2 16 Tryz.underlying163 hi hz0 hz1 hz2 rfl (by decide) (.slice ao ps.length cap) ps.length _ rfl (Hr2.u.rd.own.alloc _) ⟨w2.heap.size, 0, none⟩ 1 1 [.int .u8 36, .int .i64 (val ds)] rfl rfl (cell_two_new' _ _ (by simp) _ _ _) (fun x hx => by simp at hx; rcases hx with rfl | rfl <;> rfl) (by unfold maxLen; omega) (by omega) (by simp; omega) ?_; intro v5 w5 hown5 hgr5 _ hat5; obtain ⟨gf, cf, rfl, hgf, hgf'⟩ := oSome hown5 (Nat.succ_pos _); have HB5 := hI ((Hr2.u.rd.blk.alloc _).grown hgr5 (own_ne' Hr2.u.rd.own (Nat.lt_succ_self b))); have y2 := HB5.u.frozen 2; have y3 := HB5.u.cell 2; simp only [List.getElem?_toArray, List.getElem?_cons_zero, List.getElem?_cons_succ] at y3; have Hown5 := hI hown5; have Hgr5 := hI hgr5; have Hat5 := hI hat5; clear hown5 hgr5 hat5 c2 z2))
  go_ret
  refine ⟨true, p2, _, [(36, val ds)], rfl, ?_, by have := Hs1.u.le; have := He2.u; have := Hd0.u; simp; omega, Hr2.u.push _ 36 (val ds) Hown5.u Hgr5.u Hat5.u Hct.u⟩
  have := Hf.u
  rw [Hc.u] at this
  rw [Heq.u, Hl.u]
  exact this
 ·have e1 : decide (0 < ds.length) = false := decide_eq_false hd0
  rw [e1]
  clear e1
  have Hf := hI (old_no (c := t[p1]) (by rw [Hc.u]; rfl) Hg2.u hd0 [])
  clear hd0
  go_wp2_with fail
  go_ret
  refine ⟨false, p2, v, [], rfl, ?_, by have := Hs1.u.le; have := He2.u; simp; omega, by rw [List.append_nil]; exact Hr2.u⟩
  rw [Heq.u, Hl.u]
  exact Hf.u
theorem operand_60 (b : Nat) (t : ByteArray) (p : Nat) (v : Value) (ps : List Pt) (w : World) (h : Rd w b t p v ps) (h1 : hd ((L t).drop p) = 60) :
  Calls Tryz.prog 218 #[.pointer (some ⟨b, 0, none⟩)] w fun e w' => ∃ ok p' v' ps', e = .returned (.bool ok) ∧ Fac ((L t).drop p) ok ((L t).drop p') ps' ∧ p + ps'.length ≤ p' ∧ RdR b t v w w' p' v' (ps ++ ps') := by
 obtain ⟨ii, hi, hz0, hz1, hz2⟩ := info_parts info_part
 have hsz := h.sz
 have H := hI h
 have H1 := hI h1
 clear h h1
 go_enter Tryz.func218, Tryz.ntmps218
 go_wp2_with fail
 refine (next_any b t p v ps _ H.u).mono ?_
 rintro e w1 ⟨p1, x1, rfl, hr1, hs1⟩
 have Heq := hI (skp_same hs1 (by rw [H1.u]; decide))
 rw [← Heq.u, H1.u]
 have hlt : p1 < t.size := by
  by_cases hh : p1 < t.size
  ·exact hh
  ·have h2 := H1.u
   rw [Heq.u, hd_end t p1 (by omega)] at h2
   cases h2
 have Hl := hI (L_drop t p1 hlt)
 have Hc : Hid ((t[p1].toNat : Int) = 60) := by show _ = _; rw [← hd_drop t p1 hlt, ← Heq.u]; exact H1.u
 have c1 := hr1.rd.c1
 have z1 := hr1.rd.z1
 have Hr1 : Hid (RdR b t v w (w1.setCell ⟨b, 1, none⟩ (.int .i64 ((p1 : Int) + 1))) (p1 + 1) v ps) := by
  have := hr1.move (a' := p1 + 1) (by omega) (by have := hr1.rd.cnt; omega)
  show RdR _ _ _ _ _ _ _ _
  simpa using this
 have Hs1 := hI hs1
 clear hr1 hs1
 go_wp2_with fail
 refine (digits_any b t (p1 + 1) v ps 1 _ Hr1.u.rd (by omega)).mono ?_
 rintro e w2 ⟨ds, p2, rfl, hg2, he2, hr2⟩
 have Hg2 := hI hg2
 have He2 := hI he2
 have Hr2 := hI (Hr1.u.trans hr2)
 clear hg2 he2 hr2
 by_cases hd0 : 0 < ds.length
 ·have e1 : decide (0 < ds.length) = true := decide_eq_true hd0
  rw [e1]
  clear e1
  have Hf := hI (old_yes (c := t[p1]) (by rw [Hc.u]; rfl) Hg2.u hd0)
  have hcnt := Hr2.u.rd.cnt
  have hle := Hr2.u.rd.le
  have Hct : Hid (ps.length + 1 ≤ p2) := by have := H.u.cnt; have := Hs1.u.le; have := He2.u; show _ ≤ _; omega
  obtain ⟨ao, cap, hv⟩ := oForm Hr2.u.rd.own
  subst hv
  have c2 := Hr2.u.rd.c2
  have z2 := Hr2.u.rd.z2
  have hbl := Hr2.u.rd.blk.lt
  have Hd0 := hI hd0
  clear hd0
  go_wp2_with (first
   | (at_builtin; refine wpList_append_own_at _ rfl (.tmp 46) (.tmp 50) 163 rfl (b + 1) 197 ii (.agg #[.int .u8 0, .int .i64 0]) 2 16 Tryz.underlying163 hi hz0 hz1 hz2 rfl (by decide) (.slice ao ps.length cap) ps.length _ rfl (Hr2.u.rd.own.alloc _) ⟨w2.heap.size, 0, none⟩ 1 1 [.int .u8 60, .int .i64 (val ds)] rfl rfl (cell_two_new' _ _ (by simp) _ _ _) (fun x hx => by simp at hx; rcases hx with rfl | rfl <;> rfl) (by unfold maxLen; omega) (by omega) (by simp; omega) ?_; intro v5 w5 hown5 hgr5 _ hat5; obtain ⟨gf, cf, rfl, hgf, hgf'⟩ := oSome hown5 (Nat.succ_pos _); have HB5 := hI ((Hr2.u.rd.blk.alloc _).grown hgr5 (own_ne' Hr2.u.rd.own (Nat.lt_succ_self b))); have y2 := HB5.u.frozen 2; have y3 := HB5.u.cell 2; simp only [List.getElem?_toArray, List.getElem?_cons_zero, List.getElem?_cons_succ] at y3; have Hown5 := hI hown5; have Hgr5 := hI hgr5; have Hat5 := hI hat5; clear hown5 hgr5 hat5 c2 z2))
  go_ret
  refine ⟨true, p2, _, [(60, val ds)], rfl, ?_, by have := Hs1.u.le; have := He2.u; have := Hd0.u; simp; omega, Hr2.u.push _ 60 (val ds) Hown5.u Hgr5.u Hat5.u Hct.u⟩
  have := Hf.u
  rw [Hc.u] at this
  rw [Heq.u, Hl.u]
  exact this
 ·have e1 : decide (0 < ds.length) = false := decide_eq_false hd0
  rw [e1]
  clear e1
  have Hf := hI (old_no (c := t[p1]) (by rw [Hc.u]; rfl) Hg2.u hd0 [])
  clear hd0
  go_wp2_with fail
  go_ret
  refine ⟨false, p2, v, [], rfl, ?_, by have := Hs1.u.le; have := He2.u; simp; omega, by rw [List.append_nil]; exact Hr2.u⟩
  rw [Heq.u, Hl.u]
  exact Hf.u
theorem operand_any (b : Nat) (t : ByteArray) (p : Nat) (v : Value) (ps : List Pt) (w : World) (h : Rd w b t p v ps) (h1 : ¬ hd ((L t).drop p) = 32) (h2 : ¬ hd ((L t).drop p) = 45) (h3 : ¬ hd ((L t).drop p) = 40) :
  Calls Tryz.prog 218 #[.pointer (some ⟨b, 0, none⟩)] w fun e w' => ∃ ok p' v' ps', e = .returned (.bool ok) ∧ Fac ((L t).drop p) ok ((L t).drop p') ps' ∧ p + ps'.length ≤ p' ∧ RdR b t v w w' p' v' (ps ++ ps') := by
 by_cases h64 : hd ((L t).drop p) = 64
 ·exact operand_64 b t p v ps w h h64
 by_cases h33 : hd ((L t).drop p) = 33
 ·exact operand_33 b t p v ps w h h33
 by_cases h35 : hd ((L t).drop p) = 35
 ·exact operand_35 b t p v ps w h h35
 by_cases h36 : hd ((L t).drop p) = 36
 ·exact operand_36 b t p v ps w h h36
 by_cases h60 : hd ((L t).drop p) = 60
 ·exact operand_60 b t p v ps w h h60
 exact operand_num b t p v ps w h h1 h2 h3 (by simp [selB, h64, h33, h35]) (by simp [oldB, h36, h60])
def FacC (n : Nat) : Prop := ∀ (b : Nat) (t : ByteArray) (p : Nat) (v : Value) (ps : List Pt) (w : World), Rd w b t p v ps → t.size - p < n →
  Calls Tryz.prog 215 #[.pointer (some ⟨b, 0, none⟩)] w fun e w' => ∃ ok p' v' ps', e = .returned (.bool ok) ∧ Fac ((L t).drop p) ok ((L t).drop p') ps' ∧ p + ps'.length ≤ p' ∧ RdR b t v w w' p' v' (ps ++ ps')
def TrmC (n : Nat) : Prop := ∀ (b : Nat) (t : ByteArray) (p : Nat) (v : Value) (ps : List Pt) (w : World), Rd w b t p v ps → t.size - p < n →
  Calls Tryz.prog 199 #[.pointer (some ⟨b, 0, none⟩)] w fun e w' => ∃ ok p' v' ps', e = .returned (.bool ok) ∧ Trm ((L t).drop p) ok ((L t).drop p') ps' ∧ p + ps'.length ≤ p' ∧ RdR b t v w w' p' v' (ps ++ ps')
def ExpC (n : Nat) : Prop := ∀ (b : Nat) (t : ByteArray) (p : Nat) (v : Value) (ps : List Pt) (w : World), Rd w b t p v ps → t.size - p < n →
  Calls Tryz.prog 173 #[.pointer (some ⟨b, 0, none⟩)] w fun e w' => ∃ ok p' v' ps', e = .returned (.bool ok) ∧ Exp ((L t).drop p) ok ((L t).drop p') ps' ∧ p + ps'.length ≤ p' ∧ RdR b t v w w' p' v' (ps ++ ps')
theorem cons_lt {t : ByteArray} {p : Nat} {y : UInt8} (h : (L t).drop p = y :: (L t).drop (p + 1)) : p < t.size := by
 by_cases hp : p < t.size
 ·exact hp
 ·rw [L_drop_end t p (by omega)] at h; cases h
theorem factor_step (n : Nat) (ihF : FacC n) (ihE : ExpC n) : FacC (n + 1) := by
 intro b t p v ps w h hlen
 obtain ⟨ii, hi, hz0, hz1, hz2⟩ := info_parts info_part
 have hsz := h.sz
 have hpz := h.le
 have H := hI h
 have HF := hI ihF
 have HE := hI ihE
 clear h ihF ihE
 go_enter Tryz.func215, Tryz.ntmps215
 go_wp2_with fail
 refine (accept_any b t p v ps 45 _ H.u (by omega)).mono ?_
 rintro e w1 ⟨p1, x1, hs1, ⟨hn1, rfl, hr1⟩ | ⟨y1, hy1, hl1, rfl, hr1⟩⟩
 ·have Hs1 := hI hs1
  have Hn1 := hI hn1
  have Hr1 := hI hr1
  clear hs1 hn1 hr1
  go_wp2_with fail
  refine (accept_any b t p1 v ps 40 _ Hr1.u.rd (by omega)).mono ?_
  rintro e w2 ⟨p2, x2, hs2, ⟨hn2, rfl, hr2⟩ | ⟨y2, hy2, hl2, rfl, hr2⟩⟩
  ·have Heq := hI (skp_same hs2 Hs1.u.nb)
   have Hn2 := hI hn2
   have Hs2 := hI hs2
   have Hr2 := hI (Hr1.u.trans hr2)
   clear hs2 hn2 hr2
   go_wp2_with fail
   refine (operand_any b t p2 v ps _ Hr2.u.rd Hs2.u.nb (by rw [← Heq.u]; exact Hn1.u) Hn2.u).mono ?_
   rintro e w3 ⟨ok, p3, v3, ps3, rfl, hf, hle, hr3⟩
   have Hf := hI hf
   have Hr3 := hI (Hr2.u.trans hr3)
   clear hf hr3
   go_wp2_with fail
   go_ret
   refine ⟨ok, p3, v3, ps3, rfl, ?_, by have := Hs1.u.le; have := Hs2.u.le; omega, Hr3.u⟩
   rw [Hs1.u.eq, Heq.u]
   exact fac_blanks Hs1.u.bl Hf.u
  ·have Heq := hI (skp_same hs2 Hs1.u.nb)
   have hlt := cons_lt hl2
   have Hs2 := hI hs2
   have Hy2 := hI hy2
   have Hl2 := hI hl2
   have Hr2 := hI (Hr1.u.trans hr2)
   have hp2 : p ≤ p2 := Nat.le_trans Hs1.u.le Hs2.u.le
   clear hs2 hr2 hy2 hl2
   go_wp2_with fail
   refine (HE.u b t (p2 + 1) v ps _ Hr2.u.rd (by omega)).mono ?_
   rintro e w3 ⟨ok, p3, v3, ps3, rfl, hf, hle, hr3⟩
   have Hf := hI hf
   have Hr3 := hI (Hr2.u.trans hr3)
   clear hf hr3
   cases ok with
   | false =>
    go_wp2_with fail
    go_ret
    refine ⟨false, p3, v3, ps3, rfl, ?_, by omega, Hr3.u⟩
    rw [Hs1.u.eq, Heq.u, Hl2.u]
    exact fac_blanks Hs1.u.bl (fac_par_no Hy2.u Hf.u)
   | true =>
    go_wp2_with fail
    refine (accept_any b t p3 v3 (ps ++ ps3) 41 _ Hr3.u.rd (by omega)).mono ?_
    rintro e w4 ⟨p4, x4, hs4, ⟨hn4, rfl, hr4⟩ | ⟨y4, hy4, hl4, rfl, hr4⟩⟩
    ·have Hs4 := hI hs4
     have Hn4 := hI hn4
     have Hr4 := hI (Hr3.u.trans hr4)
     clear hs4 hn4 hr4
     go_wp2_with fail
     go_ret
     refine ⟨false, p4, v3, ps3, rfl, ?_, by have := Hs4.u.le; omega, Hr4.u⟩
     obtain ⟨z, hz1, hz2, hz3⟩ := Hf.u
     have he := skp_same Hs4.u (hz2 rfl).2.2.1
     rw [Hs1.u.eq, Heq.u, Hl2.u]
     refine fac_blanks Hs1.u.bl (fac_par_open Hy2.u (ps := ps3) ?_ Hn4.u)
     rw [← he]; exact Hf.u
    ·have Hs4 := hI hs4
     have Hy4 := hI hy4
     have Hl4 := hI hl4
     have Hr4 := hI (Hr3.u.trans hr4)
     clear hs4 hy4 hl4 hr4
     go_wp2_with fail
     go_ret
     refine ⟨true, p4 + 1, v3, ps3, rfl, ?_, by have := Hs4.u.le; omega, Hr4.u⟩
     obtain ⟨z, hz1, hz2, hz3⟩ := Hf.u
     have he := skp_same Hs4.u (hz2 rfl).2.2.1
     rw [Hs1.u.eq, Heq.u, Hl2.u]
     refine fac_blanks Hs1.u.bl (fac_par_yes Hy2.u Hy4.u ?_)
     rw [← Hl4.u, ← he]; exact Hf.u
 ·have hlt := cons_lt hl1
  have Hs1 := hI hs1
  have Hy1 := hI hy1
  have Hl1 := hI hl1
  have Hr1 := hI hr1
  have hp1 : p ≤ p1 := Hs1.u.le
  clear hs1 hy1 hl1 hr1
  go_wp2_with fail
  refine (HF.u b t (p1 + 1) v ps _ Hr1.u.rd (by omega)).mono ?_
  rintro e w3 ⟨ok, p3, v3, ps3, rfl, hf, hle, hr3⟩
  have Hf : Hid (Fac ((L t).drop p) ok ((L t).drop p3) (ps3 ++ [(126, 0)])) := by
   show Fac _ _ _ _
   rw [Hs1.u.eq, Hl1.u]
   exact fac_blanks Hs1.u.bl (fac_neg Hy1.u hf)
  have Hr3 := hI (Hr1.u.trans hr3)
  clear hf hr3
  cases ok with
  | false =>
   go_wp2_with fail
   go_ret
   exact ⟨false, p3, v3, ps3, rfl, trm_no Hf.u, by omega, Hr3.u⟩
  | true =>
   have hcnt := Hr3.u.rd.cnt
   have hle3 := Hr3.u.rd.le
   have hct : (ps ++ ps3).length + 1 ≤ p3 := by have := H.u.cnt; simp; omega
   obtain ⟨qs, hqs⟩ : ∃ qs, ps ++ ps3 = qs := ⟨_, rfl⟩
   rw [hqs] at Hr3 hcnt hct
   have Hqs := hI hqs
   obtain ⟨ao, cap, hv⟩ := oForm Hr3.u.rd.own
   subst hv
   have c2 := Hr3.u.rd.c2
   have z2 := Hr3.u.rd.z2
   have hbl := Hr3.u.rd.blk.lt
   clear hqs
   go_wp2_with (first
    | (at_builtin; refine wpList_append_own_at _ rfl (.tmp 12) (.tmp 14) 163 rfl (b + 1) 197 ii (.agg #[.int .u8 0, .int .i64 0]) 2 16 Tryz.underlying163 hi hz0 hz1 hz2 rfl (by decide) (.slice ao qs.length cap) qs.length _ rfl (Hr3.u.rd.own.alloc _) ⟨w3.heap.size, 0, none⟩ 1 1 [.int .u8 126, .int .i64 0] rfl rfl (cell_two_new' _ _ (by simp) _ _ _) (fun x hx => by simp at hx; rcases hx with rfl | rfl <;> rfl) (by unfold maxLen; omega) (by omega) (by simp; omega) ?_; intro v5 w5 hown5 hgr5 _ hat5; obtain ⟨gf, cf, rfl, hgf, hgf'⟩ := oSome hown5 (Nat.succ_pos _); have HB5 := hI ((Hr3.u.rd.blk.alloc _).grown hgr5 (own_ne' Hr3.u.rd.own (Nat.lt_succ_self b))); have y2 := HB5.u.frozen 2; have y3 := HB5.u.cell 2; simp only [List.getElem?_toArray, List.getElem?_cons_zero, List.getElem?_cons_succ] at y3; have Hown5 := hI hown5; have Hgr5 := hI hgr5; have Hat5 := hI hat5; clear hown5 hgr5 hat5 c2 z2))
   go_ret
   refine ⟨true, p3, .slice (some ⟨gf, 0, none⟩) (qs.length + 1) cf, ps3 ++ [(126, 0)], rfl, Hf.u, by simp; omega, ?_⟩
   have := Hr3.u.push _ 126 0 Hown5.u Hgr5.u Hat5.u hct
   rw [← List.append_assoc, Hqs.u]
   exact this
theorem got_H {S : List UInt8 → List Pt → Prop} {H : List UInt8 → Prop} {l l' : List UInt8} {ps : List Pt} (h : Got S H l true l' ps) : H l' := by
 obtain ⟨x, _, h1, _⟩ := h
 exact (h1 rfl).2.2
theorem term_step (n : Nat) (ih : FacC n) : TrmC n := by
 intro b t p v ps w h hlen
 obtain ⟨ii, hi, hz0, hz1, hz2⟩ := info_parts info_part
 have hsz := h.sz
 have hpz := h.le
 have H := hI h
 have HI := hI ih
 clear h ih
 go_enter Tryz.func199, Tryz.ntmps199
 go_wp2_with fail
 refine (HI.u b t p v ps _ H.u hlen).mono ?_
 rintro e w1 ⟨ok, p1, v1, ps1, rfl, hf, hle, hr1⟩
 have Hf := hI hf
 have Hr1 := hI hr1
 clear hf hr1
 cases ok with
 | false =>
  go_wp2_with fail
  go_ret
  exact ⟨false, p1, v1, ps1, rfl, trm_no Hf.u, hle, Hr1.u⟩
 | true =>
  go_wp2_with fail
  refine (next_any b t p1 v1 (ps ++ ps1) _ Hr1.u.rd).mono ?_
  rintro e w2 ⟨p2, x2, rfl, hr2, hs2⟩
  have Hg0 : Hid (Got TrmS (fun _ => True) ((L t).drop p) true ((L t).drop p2) ps1) := trm_fac (by rw [← hs2.eq]; exact Hf.u) hs2.bl
  have Hn0 := hI hs2.nb
  have hl2 := hs2.le
  have hp2 := hr2.rd.le
  have Hr2 := hI (Hr1.u.trans hr2)
  clear hr2 hs2
  go_wp2_with fail
  go_loopg [3] (t.size - p2) (fun m sg wr => ∃ k v2 qs, p + qs.length ≤ k ∧ k ≤ t.size ∧ m = t.size - k ∧ sg = .int .u8 (hd ((L t).drop k)) ∧ Hid (Got TrmS (fun _ => True) ((L t).drop p) true ((L t).drop k) qs) ∧ Hid (¬ hd ((L t).drop k) = 32) ∧ Hid (RdR b t v w wr k v2 (ps ++ qs)))
  case atStart => exact ⟨p2, v1, ps1, by omega, hp2, rfl, rfl, Hg0.u, Hn0.u, Hr2.u⟩
  case round =>
   obtain ⟨k, v2, qs, hqk, hk, rfl, rfl, Hg, Hn, Hr⟩ := hrel
   obtain ⟨c, hc⟩ : ∃ c, hd ((L t).drop k) = c := ⟨_, rfl⟩
   rw [hc]
   have Hc := hI hc
   clear hc
   by_cases h1 : c = 42
   ·subst h1
    have hlt : k < t.size := by
     by_cases hh : k < t.size
     ·exact hh
     ·have h2 := Hc.u
      rw [hd_end t k (by omega)] at h2
      cases h2
    have Hl := hI (L_drop t k hlt)
    have Ho : Hid ((t[k].toNat : Int) = 42 ∨ (t[k].toNat : Int) = 47) := by
     show _ ∨ _
     rw [← hd_drop t k hlt, Hc.u]
     decide
    have Hv : Hid ((t[k].toNat : Int) = 42) := by show _ = _; rw [← hd_drop t k hlt]; exact Hc.u
    have c1 := Hr.u.rd.c1
    have z1 := Hr.u.rd.z1
    have Hrm : Hid (RdR b t v w (wr.setCell ⟨b, 1, none⟩ (.int .i64 ((k : Int) + 1))) (k + 1) v2 (ps ++ qs)) := by
     have := Hr.u.move (a' := k + 1) (by omega) (by have := Hr.u.rd.cnt; omega)
     show RdR _ _ _ _ _ _ _ _
     simpa using this
    go_wp2_with fail
    refine (HI.u b t (k + 1) v2 (ps ++ qs) _ Hrm.u.rd (by omega)).mono ?_
    rintro e w3 ⟨ok, p3, v3, ps3, rfl, hf3, hle3, hr3⟩
    have Hf3 := hI hf3
    have Hr3 : Hid (RdR b t v w w3 p3 v3 (ps ++ (qs ++ ps3))) := by
     show RdR _ _ _ _ _ _ _ _
     rw [← List.append_assoc]
     exact Hrm.u.trans hr3
    clear hf3 hr3 c1 z1
    cases ok with
    | false =>
     go_wp2_with fail
     go_ret
     refine ⟨false, p3, v3, qs ++ ps3, rfl, ?_, by simp; omega, Hr3.u⟩
     exact op_no (o := t[k]) (by rw [Hv.u]; rfl) (by rw [← Hl.u]; exact Hg.u) Hf3.u
    | true =>
     have hcnt := Hr3.u.rd.cnt
     have hle4 := Hr3.u.rd.le
     have hct : (ps ++ (qs ++ ps3)).length + 1 ≤ p3 := by have := H.u.cnt; simp; omega
     obtain ⟨rs, hrs⟩ : ∃ rs, ps ++ (qs ++ ps3) = rs := ⟨_, rfl⟩
     rw [hrs] at Hr3 hcnt hct
     have Hrs := hI hrs
     obtain ⟨ao, cap, hv⟩ := oForm Hr3.u.rd.own
     subst hv
     have c2 := Hr3.u.rd.c2
     have z2 := Hr3.u.rd.z2
     have hbl := Hr3.u.rd.blk.lt
     clear hrs
     go_wp2_with (first
      | (at_builtin; refine wpList_append_own_at _ rfl (.tmp 29) (.tmp 32) 163 rfl (b + 1) 197 ii (.agg #[.int .u8 0, .int .i64 0]) 2 16 Tryz.underlying163 hi hz0 hz1 hz2 rfl (by decide) (.slice ao rs.length cap) rs.length _ rfl (Hr3.u.rd.own.alloc _) ⟨w3.heap.size, 0, none⟩ 1 1 [.int .u8 42, .int .i64 0] rfl rfl (cell_two_new' _ _ (by simp) _ _ _) (fun x hx => by simp at hx; rcases hx with rfl | rfl <;> rfl) (by unfold maxLen; omega) (by omega) (by simp; omega) ?_; intro v5 w5 hown5 hgr5 _ hat5; obtain ⟨gf, cf, rfl, hgf, hgf'⟩ := oSome hown5 (Nat.succ_pos _); have HB5 := hI ((Hr3.u.rd.blk.alloc _).grown hgr5 (own_ne' Hr3.u.rd.own (Nat.lt_succ_self b))); have y2 := HB5.u.frozen 2; have y3 := HB5.u.cell 2; simp only [List.getElem?_toArray, List.getElem?_cons_zero, List.getElem?_cons_succ] at y3; have Hr5 := hI (Hr3.u.push _ 42 0 hown5 hgr5 hat5 hct); clear hown5 hgr5 hat5 c2 z2))
     refine (next_any b t p3 _ _ _ Hr5.u.rd).mono ?_
     rintro e w6 ⟨p4, x4, rfl, hr6, hs4⟩
     have Hg4 : Hid (Got TrmS (fun _ => True) ((L t).drop p) true ((L t).drop p4) (qs ++ ps3 ++ [((t[k].toNat : Int), 0)])) := trm_mul Ho.u (by rw [← Hl.u]; exact Hg.u) (by rw [← hs4.eq]; exact Hf3.u) hs4.bl
     have Hn4 := hI hs4.nb
     have hl4 := hs4.le
     have hp4 := hr6.rd.le
     have Hr6 := hI (Hr5.u.trans hr6)
     clear hr6 hs4
     go_wp2_with fail
     go_roundg (t.size - p4)
     case measure => omega
     case rel =>
      refine ⟨p4, .slice (some ⟨gf, 0, none⟩) (rs.length + 1) cf, qs ++ ps3 ++ [(42, 0)], by simp; omega, hp4, rfl, rfl, ?_, Hn4.u, ?_⟩
      ·have := Hg4.u
       rw [Hv.u] at this
       exact this
      ·have e2 : ps ++ (qs ++ ps3 ++ [(42, 0)]) = rs ++ [(42, 0)] := by rw [← Hrs.u]; simp
       show RdR _ _ _ _ _ _ _ _
       rw [e2]
       exact Hr6.u
   by_cases h2 : c = 47
   ·subst h2
    have hlt : k < t.size := by
     by_cases hh : k < t.size
     ·exact hh
     ·have h2 := Hc.u
      rw [hd_end t k (by omega)] at h2
      cases h2
    have Hl := hI (L_drop t k hlt)
    have Ho : Hid ((t[k].toNat : Int) = 42 ∨ (t[k].toNat : Int) = 47) := by
     show _ ∨ _
     rw [← hd_drop t k hlt, Hc.u]
     decide
    have Hv : Hid ((t[k].toNat : Int) = 47) := by show _ = _; rw [← hd_drop t k hlt]; exact Hc.u
    have c1 := Hr.u.rd.c1
    have z1 := Hr.u.rd.z1
    have Hrm : Hid (RdR b t v w (wr.setCell ⟨b, 1, none⟩ (.int .i64 ((k : Int) + 1))) (k + 1) v2 (ps ++ qs)) := by
     have := Hr.u.move (a' := k + 1) (by omega) (by have := Hr.u.rd.cnt; omega)
     show RdR _ _ _ _ _ _ _ _
     simpa using this
    go_wp2_with fail
    refine (HI.u b t (k + 1) v2 (ps ++ qs) _ Hrm.u.rd (by omega)).mono ?_
    rintro e w3 ⟨ok, p3, v3, ps3, rfl, hf3, hle3, hr3⟩
    have Hf3 := hI hf3
    have Hr3 : Hid (RdR b t v w w3 p3 v3 (ps ++ (qs ++ ps3))) := by
     show RdR _ _ _ _ _ _ _ _
     rw [← List.append_assoc]
     exact Hrm.u.trans hr3
    clear hf3 hr3 c1 z1
    cases ok with
    | false =>
     go_wp2_with fail
     go_ret
     refine ⟨false, p3, v3, qs ++ ps3, rfl, ?_, by simp; omega, Hr3.u⟩
     exact op_no (o := t[k]) (by rw [Hv.u]; rfl) (by rw [← Hl.u]; exact Hg.u) Hf3.u
    | true =>
     have hcnt := Hr3.u.rd.cnt
     have hle4 := Hr3.u.rd.le
     have hct : (ps ++ (qs ++ ps3)).length + 1 ≤ p3 := by have := H.u.cnt; simp; omega
     obtain ⟨rs, hrs⟩ : ∃ rs, ps ++ (qs ++ ps3) = rs := ⟨_, rfl⟩
     rw [hrs] at Hr3 hcnt hct
     have Hrs := hI hrs
     obtain ⟨ao, cap, hv⟩ := oForm Hr3.u.rd.own
     subst hv
     have c2 := Hr3.u.rd.c2
     have z2 := Hr3.u.rd.z2
     have hbl := Hr3.u.rd.blk.lt
     clear hrs
     go_wp2_with (first
      | (at_builtin; refine wpList_append_own_at _ rfl (.tmp 29) (.tmp 32) 163 rfl (b + 1) 197 ii (.agg #[.int .u8 0, .int .i64 0]) 2 16 Tryz.underlying163 hi hz0 hz1 hz2 rfl (by decide) (.slice ao rs.length cap) rs.length _ rfl (Hr3.u.rd.own.alloc _) ⟨w3.heap.size, 0, none⟩ 1 1 [.int .u8 47, .int .i64 0] rfl rfl (cell_two_new' _ _ (by simp) _ _ _) (fun x hx => by simp at hx; rcases hx with rfl | rfl <;> rfl) (by unfold maxLen; omega) (by omega) (by simp; omega) ?_; intro v5 w5 hown5 hgr5 _ hat5; obtain ⟨gf, cf, rfl, hgf, hgf'⟩ := oSome hown5 (Nat.succ_pos _); have HB5 := hI ((Hr3.u.rd.blk.alloc _).grown hgr5 (own_ne' Hr3.u.rd.own (Nat.lt_succ_self b))); have y2 := HB5.u.frozen 2; have y3 := HB5.u.cell 2; simp only [List.getElem?_toArray, List.getElem?_cons_zero, List.getElem?_cons_succ] at y3; have Hr5 := hI (Hr3.u.push _ 47 0 hown5 hgr5 hat5 hct); clear hown5 hgr5 hat5 c2 z2))
     refine (next_any b t p3 _ _ _ Hr5.u.rd).mono ?_
     rintro e w6 ⟨p4, x4, rfl, hr6, hs4⟩
     have Hg4 : Hid (Got TrmS (fun _ => True) ((L t).drop p) true ((L t).drop p4) (qs ++ ps3 ++ [((t[k].toNat : Int), 0)])) := trm_mul Ho.u (by rw [← Hl.u]; exact Hg.u) (by rw [← hs4.eq]; exact Hf3.u) hs4.bl
     have Hn4 := hI hs4.nb
     have hl4 := hs4.le
     have hp4 := hr6.rd.le
     have Hr6 := hI (Hr5.u.trans hr6)
     clear hr6 hs4
     go_wp2_with fail
     go_roundg (t.size - p4)
     case measure => omega
     case rel =>
      refine ⟨p4, .slice (some ⟨gf, 0, none⟩) (rs.length + 1) cf, qs ++ ps3 ++ [(47, 0)], by simp; omega, hp4, rfl, rfl, ?_, Hn4.u, ?_⟩
      ·have := Hg4.u
       rw [Hv.u] at this
       exact this
      ·have e2 : ps ++ (qs ++ ps3 ++ [(47, 0)]) = rs ++ [(47, 0)] := by rw [← Hrs.u]; simp
       show RdR _ _ _ _ _ _ _ _
       rw [e2]
       exact Hr6.u
   have n1 : (c == 42) = false := by simpa using h1
   have n2 : (c == 47) = false := by simpa using h2
   have Hn1 := hI h1
   have Hn2 := hI h2
   clear h1 h2
   go_wp2_with fail
   go_ret
   refine ⟨true, k, v2, qs, rfl, ?_, hqk, Hr.u⟩
   exact trm_end Hg.u ⟨Hn.u, by rw [Hc.u]; exact Hn1.u, by rw [Hc.u]; exact Hn2.u⟩
theorem expression_step (n : Nat) (ih : TrmC n) : ExpC n := by
 intro b t p v ps w h hlen
 obtain ⟨ii, hi, hz0, hz1, hz2⟩ := info_parts info_part
 have hsz := h.sz
 have hpz := h.le
 have H := hI h
 have HI := hI ih
 clear h ih
 go_enter Tryz.func173, Tryz.ntmps173
 go_wp2_with fail
 refine (HI.u b t p v ps _ H.u hlen).mono ?_
 rintro e w1 ⟨ok, p1, v1, ps1, rfl, hf, hle, hr1⟩
 have Hf := hI hf
 have Hr1 := hI hr1
 clear hf hr1
 cases ok with
 | false =>
  go_wp2_with fail
  go_ret
  exact ⟨false, p1, v1, ps1, rfl, trm_no Hf.u, hle, Hr1.u⟩
 | true =>
  go_wp2_with fail
  refine (next_any b t p1 v1 (ps ++ ps1) _ Hr1.u.rd).mono ?_
  rintro e w2 ⟨p2, x2, rfl, hr2, hs2⟩
  have Hg0 : Hid (Got ExpS (fun l => ¬ hd l = 32 ∧ ¬ hd l = 42 ∧ ¬ hd l = 47) ((L t).drop p) true ((L t).drop p2) ps1) := (by rw [← skp_same hs2 (got_H Hf.u).1]; exact exp_trm Hf.u)
  have Hn0 := hI hs2.nb
  have hl2 := hs2.le
  have hp2 := hr2.rd.le
  have Hr2 := hI (Hr1.u.trans hr2)
  clear hr2 hs2
  go_wp2_with fail
  go_loopg [3] (t.size - p2) (fun m sg wr => ∃ k v2 qs, p + qs.length ≤ k ∧ k ≤ t.size ∧ m = t.size - k ∧ sg = .int .u8 (hd ((L t).drop k)) ∧ Hid (Got ExpS (fun l => ¬ hd l = 32 ∧ ¬ hd l = 42 ∧ ¬ hd l = 47) ((L t).drop p) true ((L t).drop k) qs) ∧ Hid (¬ hd ((L t).drop k) = 32) ∧ Hid (RdR b t v w wr k v2 (ps ++ qs)))
  case atStart => exact ⟨p2, v1, ps1, by omega, hp2, rfl, rfl, Hg0.u, Hn0.u, Hr2.u⟩
  case round =>
   obtain ⟨k, v2, qs, hqk, hk, rfl, rfl, Hg, Hn, Hr⟩ := hrel
   obtain ⟨c, hc⟩ : ∃ c, hd ((L t).drop k) = c := ⟨_, rfl⟩
   rw [hc]
   have Hc := hI hc
   clear hc
   by_cases h1 : c = 43
   ·subst h1
    have hlt : k < t.size := by
     by_cases hh : k < t.size
     ·exact hh
     ·have h2 := Hc.u
      rw [hd_end t k (by omega)] at h2
      cases h2
    have Hl := hI (L_drop t k hlt)
    have Ho : Hid ((t[k].toNat : Int) = 43 ∨ (t[k].toNat : Int) = 45) := by
     show _ ∨ _
     rw [← hd_drop t k hlt, Hc.u]
     decide
    have Hv : Hid ((t[k].toNat : Int) = 43) := by show _ = _; rw [← hd_drop t k hlt]; exact Hc.u
    have c1 := Hr.u.rd.c1
    have z1 := Hr.u.rd.z1
    have Hrm : Hid (RdR b t v w (wr.setCell ⟨b, 1, none⟩ (.int .i64 ((k : Int) + 1))) (k + 1) v2 (ps ++ qs)) := by
     have := Hr.u.move (a' := k + 1) (by omega) (by have := Hr.u.rd.cnt; omega)
     show RdR _ _ _ _ _ _ _ _
     simpa using this
    go_wp2_with fail
    refine (HI.u b t (k + 1) v2 (ps ++ qs) _ Hrm.u.rd (by omega)).mono ?_
    rintro e w3 ⟨ok, p3, v3, ps3, rfl, hf3, hle3, hr3⟩
    have Hf3 := hI hf3
    have Hr3 : Hid (RdR b t v w w3 p3 v3 (ps ++ (qs ++ ps3))) := by
     show RdR _ _ _ _ _ _ _ _
     rw [← List.append_assoc]
     exact Hrm.u.trans hr3
    clear hf3 hr3 c1 z1
    cases ok with
    | false =>
     go_wp2_with fail
     go_ret
     refine ⟨false, p3, v3, qs ++ ps3, rfl, ?_, by simp; omega, Hr3.u⟩
     exact op_no (o := t[k]) (by rw [Hv.u]; rfl) (by rw [← Hl.u]; exact Hg.u) Hf3.u
    | true =>
     have hcnt := Hr3.u.rd.cnt
     have hle4 := Hr3.u.rd.le
     have hct : (ps ++ (qs ++ ps3)).length + 1 ≤ p3 := by have := H.u.cnt; simp; omega
     obtain ⟨rs, hrs⟩ : ∃ rs, ps ++ (qs ++ ps3) = rs := ⟨_, rfl⟩
     rw [hrs] at Hr3 hcnt hct
     have Hrs := hI hrs
     obtain ⟨ao, cap, hv⟩ := oForm Hr3.u.rd.own
     subst hv
     have c2 := Hr3.u.rd.c2
     have z2 := Hr3.u.rd.z2
     have hbl := Hr3.u.rd.blk.lt
     clear hrs
     go_wp2_with (first
      | (at_builtin; refine wpList_append_own_at _ rfl (.tmp 29) (.tmp 32) 163 rfl (b + 1) 197 ii (.agg #[.int .u8 0, .int .i64 0]) 2 16 Tryz.underlying163 hi hz0 hz1 hz2 rfl (by decide) (.slice ao rs.length cap) rs.length _ rfl (Hr3.u.rd.own.alloc _) ⟨w3.heap.size, 0, none⟩ 1 1 [.int .u8 43, .int .i64 0] rfl rfl (cell_two_new' _ _ (by simp) _ _ _) (fun x hx => by simp at hx; rcases hx with rfl | rfl <;> rfl) (by unfold maxLen; omega) (by omega) (by simp; omega) ?_; intro v5 w5 hown5 hgr5 _ hat5; obtain ⟨gf, cf, rfl, hgf, hgf'⟩ := oSome hown5 (Nat.succ_pos _); have HB5 := hI ((Hr3.u.rd.blk.alloc _).grown hgr5 (own_ne' Hr3.u.rd.own (Nat.lt_succ_self b))); have y2 := HB5.u.frozen 2; have y3 := HB5.u.cell 2; simp only [List.getElem?_toArray, List.getElem?_cons_zero, List.getElem?_cons_succ] at y3; have Hr5 := hI (Hr3.u.push _ 43 0 hown5 hgr5 hat5 hct); clear hown5 hgr5 hat5 c2 z2))
     refine (next_any b t p3 _ _ _ Hr5.u.rd).mono ?_
     rintro e w6 ⟨p4, x4, rfl, hr6, hs4⟩
     have Hg4 : Hid (Got ExpS (fun l => ¬ hd l = 32 ∧ ¬ hd l = 42 ∧ ¬ hd l = 47) ((L t).drop p) true ((L t).drop p4) (qs ++ ps3 ++ [((t[k].toNat : Int), 0)])) := exp_add Ho.u (by rw [← Hl.u]; exact got_any Hg.u) (by rw [← skp_same hs4 (got_H Hf3.u).1]; exact Hf3.u)
     have Hn4 := hI hs4.nb
     have hl4 := hs4.le
     have hp4 := hr6.rd.le
     have Hr6 := hI (Hr5.u.trans hr6)
     clear hr6 hs4
     go_wp2_with fail
     go_roundg (t.size - p4)
     case measure => omega
     case rel =>
      refine ⟨p4, .slice (some ⟨gf, 0, none⟩) (rs.length + 1) cf, qs ++ ps3 ++ [(43, 0)], by simp; omega, hp4, rfl, rfl, ?_, Hn4.u, ?_⟩
      ·have := Hg4.u
       rw [Hv.u] at this
       exact this
      ·have e2 : ps ++ (qs ++ ps3 ++ [(43, 0)]) = rs ++ [(43, 0)] := by rw [← Hrs.u]; simp
       show RdR _ _ _ _ _ _ _ _
       rw [e2]
       exact Hr6.u
   by_cases h2 : c = 45
   ·subst h2
    have hlt : k < t.size := by
     by_cases hh : k < t.size
     ·exact hh
     ·have h2 := Hc.u
      rw [hd_end t k (by omega)] at h2
      cases h2
    have Hl := hI (L_drop t k hlt)
    have Ho : Hid ((t[k].toNat : Int) = 43 ∨ (t[k].toNat : Int) = 45) := by
     show _ ∨ _
     rw [← hd_drop t k hlt, Hc.u]
     decide
    have Hv : Hid ((t[k].toNat : Int) = 45) := by show _ = _; rw [← hd_drop t k hlt]; exact Hc.u
    have c1 := Hr.u.rd.c1
    have z1 := Hr.u.rd.z1
    have Hrm : Hid (RdR b t v w (wr.setCell ⟨b, 1, none⟩ (.int .i64 ((k : Int) + 1))) (k + 1) v2 (ps ++ qs)) := by
     have := Hr.u.move (a' := k + 1) (by omega) (by have := Hr.u.rd.cnt; omega)
     show RdR _ _ _ _ _ _ _ _
     simpa using this
    go_wp2_with fail
    refine (HI.u b t (k + 1) v2 (ps ++ qs) _ Hrm.u.rd (by omega)).mono ?_
    rintro e w3 ⟨ok, p3, v3, ps3, rfl, hf3, hle3, hr3⟩
    have Hf3 := hI hf3
    have Hr3 : Hid (RdR b t v w w3 p3 v3 (ps ++ (qs ++ ps3))) := by
     show RdR _ _ _ _ _ _ _ _
     rw [← List.append_assoc]
     exact Hrm.u.trans hr3
    clear hf3 hr3 c1 z1
    cases ok with
    | false =>
     go_wp2_with fail
     go_ret
     refine ⟨false, p3, v3, qs ++ ps3, rfl, ?_, by simp; omega, Hr3.u⟩
     exact op_no (o := t[k]) (by rw [Hv.u]; rfl) (by rw [← Hl.u]; exact Hg.u) Hf3.u
    | true =>
     have hcnt := Hr3.u.rd.cnt
     have hle4 := Hr3.u.rd.le
     have hct : (ps ++ (qs ++ ps3)).length + 1 ≤ p3 := by have := H.u.cnt; simp; omega
     obtain ⟨rs, hrs⟩ : ∃ rs, ps ++ (qs ++ ps3) = rs := ⟨_, rfl⟩
     rw [hrs] at Hr3 hcnt hct
     have Hrs := hI hrs
     obtain ⟨ao, cap, hv⟩ := oForm Hr3.u.rd.own
     subst hv
     have c2 := Hr3.u.rd.c2
     have z2 := Hr3.u.rd.z2
     have hbl := Hr3.u.rd.blk.lt
     clear hrs
     go_wp2_with (first
      | (at_builtin; refine wpList_append_own_at _ rfl (.tmp 29) (.tmp 32) 163 rfl (b + 1) 197 ii (.agg #[.int .u8 0, .int .i64 0]) 2 16 Tryz.underlying163 hi hz0 hz1 hz2 rfl (by decide) (.slice ao rs.length cap) rs.length _ rfl (Hr3.u.rd.own.alloc _) ⟨w3.heap.size, 0, none⟩ 1 1 [.int .u8 45, .int .i64 0] rfl rfl (cell_two_new' _ _ (by simp) _ _ _) (fun x hx => by simp at hx; rcases hx with rfl | rfl <;> rfl) (by unfold maxLen; omega) (by omega) (by simp; omega) ?_; intro v5 w5 hown5 hgr5 _ hat5; obtain ⟨gf, cf, rfl, hgf, hgf'⟩ := oSome hown5 (Nat.succ_pos _); have HB5 := hI ((Hr3.u.rd.blk.alloc _).grown hgr5 (own_ne' Hr3.u.rd.own (Nat.lt_succ_self b))); have y2 := HB5.u.frozen 2; have y3 := HB5.u.cell 2; simp only [List.getElem?_toArray, List.getElem?_cons_zero, List.getElem?_cons_succ] at y3; have Hr5 := hI (Hr3.u.push _ 45 0 hown5 hgr5 hat5 hct); clear hown5 hgr5 hat5 c2 z2))
     refine (next_any b t p3 _ _ _ Hr5.u.rd).mono ?_
     rintro e w6 ⟨p4, x4, rfl, hr6, hs4⟩
     have Hg4 : Hid (Got ExpS (fun l => ¬ hd l = 32 ∧ ¬ hd l = 42 ∧ ¬ hd l = 47) ((L t).drop p) true ((L t).drop p4) (qs ++ ps3 ++ [((t[k].toNat : Int), 0)])) := exp_add Ho.u (by rw [← Hl.u]; exact got_any Hg.u) (by rw [← skp_same hs4 (got_H Hf3.u).1]; exact Hf3.u)
     have Hn4 := hI hs4.nb
     have hl4 := hs4.le
     have hp4 := hr6.rd.le
     have Hr6 := hI (Hr5.u.trans hr6)
     clear hr6 hs4
     go_wp2_with fail
     go_roundg (t.size - p4)
     case measure => omega
     case rel =>
      refine ⟨p4, .slice (some ⟨gf, 0, none⟩) (rs.length + 1) cf, qs ++ ps3 ++ [(45, 0)], by simp; omega, hp4, rfl, rfl, ?_, Hn4.u, ?_⟩
      ·have := Hg4.u
       rw [Hv.u] at this
       exact this
      ·have e2 : ps ++ (qs ++ ps3 ++ [(45, 0)]) = rs ++ [(45, 0)] := by rw [← Hrs.u]; simp
       show RdR _ _ _ _ _ _ _ _
       rw [e2]
       exact Hr6.u
   have n1 : (c == 43) = false := by simpa using h1
   have n2 : (c == 45) = false := by simpa using h2
   have Hn1 := hI h1
   have Hn2 := hI h2
   clear h1 h2
   go_wp2_with fail
   go_ret
   refine ⟨true, k, v2, qs, rfl, ?_, hqk, Hr.u⟩
   have hh := got_H Hg.u
   refine trm_end (got_any Hg.u) ⟨hh.1, ?_⟩
   have n3 := hh.2.1
   have n4 := hh.2.2
   rw [Hc.u] at n3 n4 ⊢
   have n1 := Hn1.u
   have n2 := Hn2.u
   simp [opB, n1, n2, n3, n4]
theorem all_C (n : Nat) : FacC n ∧ ExpC n := by
 induction n with
 | zero => exact ⟨fun b t p v ps w _ h => absurd h (Nat.not_lt_zero _), fun b t p v ps w _ h => absurd h (Nat.not_lt_zero _)⟩
 | succ n ih =>
  have hF := factor_step n ih.1 ih.2
  exact ⟨hF, expression_step (n + 1) (term_step (n + 1) hF)⟩
theorem expression_any (b : Nat) (t : ByteArray) (p : Nat) (v : Value) (ps : List Pt) (w : World) (h : Rd w b t p v ps) :
  Calls Tryz.prog 173 #[.pointer (some ⟨b, 0, none⟩)] w fun e w' => ∃ ok p' v' ps', e = .returned (.bool ok) ∧ Exp ((L t).drop p) ok ((L t).drop p') ps' ∧ p + ps'.length ≤ p' ∧ RdR b t v w w' p' v' (ps ++ ps') :=
 (all_C (t.size - p + 1)).2 b t p v ps w h (Nat.lt_succ_self _)
end Go.Proofs.YtdchbenfccofpaaGreatDoor
namespace Db
def RowsS (rows : List (List UInt8)) (pss : List (List Pt)) : Prop := rows.length = pss.length ∧ ∀ (i : Nat) e ps, rows[i]? = some e → pss[i]? = some ps → ExpS e ps
theorem RowsS.nil : RowsS [] [] := ⟨rfl, by intro i e ps h; simp at h⟩
theorem RowsS.snoc {rows : List (List UInt8)} {pss : List (List Pt)} (h : RowsS rows pss) {e : List UInt8} {ps : List Pt} (he : ExpS e ps) : RowsS (rows ++ [e]) (pss ++ [ps]) := by
 refine ⟨by simp [h.1], ?_⟩
 intro i e' ps' h1 h2
 by_cases hi : i < rows.length
 ·rw [List.getElem?_append_left hi] at h1
  rw [List.getElem?_append_left (by rw [← h.1]; exact hi)] at h2
  exact h.2 i e' ps' h1 h2
 ·rw [List.getElem?_append_right (by omega)] at h1
  rw [List.getElem?_append_right (by rw [← h.1]; omega)] at h2
  rw [← h.1] at h2
  match hk : i - rows.length, h1, h2 with
  | 0, h1, h2 => simp at h1 h2; subst h1 h2; exact he
  | k + 1, h1, h2 => simp at h1
structure RowSt (l l' : List UInt8) (rows : List (List UInt8)) (pss : List (List Pt)) : Prop where
 ex : ∃ x, l = x ++ l' ∧ (∀ i : Int, plc 6 0 0 i l = plc 6 0 0 (i + x.length) l') ∧ (∀ r, split (bare x ++ r) 59 = rows ++ split r 59) ∧ ∀ c ∈ bare x, ¬ c.toNat = 124
 rs : RowsS rows pss
structure RowEnd (l : List UInt8) (ok : Bool) (l' : List UInt8) (rows : List (List UInt8)) (pss : List (List Pt)) : Prop where
 yes : ok = true → (∀ i : Int, plc 6 0 0 i l = -1) ∧ split (bare l) 59 = rows ∧ (∀ c ∈ bare l, ¬ c.toNat = 124) ∧ RowsS rows pss
 no : ok = false → ∃ x, l = x ++ l' ∧ ∀ i : Int, plc 6 0 0 i l = i + x.length
theorem RowSt.start (l : List UInt8) : RowSt l l [] [] := ⟨⟨[], rfl, fun i => by simp, fun r => by simp [bare], by simp [bare]⟩, RowsS.nil⟩
theorem exp_ne {e : List UInt8} {ps : List Pt} (h : ExpS e ps) : ∀ c ∈ e, c ≠ 59 := by
 rintro c hc rfl
 exact (h.chars 59 hc).2.2.1 rfl
theorem u8_59 {c : UInt8} (h : (c.toNat : Int) = 59) : c = 59 := UInt8.toNat_inj.1 (by simp; omega)
theorem RowSt.no {l l1 l' : List UInt8} {rows : List (List UInt8)} {pss : List (List Pt)} {ps : List Pt} (h : RowSt l l1 rows pss) (he : Exp l1 false l' ps) (rows' : List (List UInt8)) (pss' : List (List Pt)) : RowEnd l false l' rows' pss' := by
 obtain ⟨x, rfl, h1, h2, h3⟩ := h.ex
 obtain ⟨y, rfl, g1, g2⟩ := he
 refine ⟨(fun h0 => by cases h0), fun _ => ⟨x ++ y, by simp, fun i => ?_⟩⟩
 rw [h1, g2 rfl 0 0 _ (by omega)]; simp; omega
theorem RowSt.semi {l l1 r : List UInt8} {rows : List (List UInt8)} {pss : List (List Pt)} {ps : List Pt} {c : UInt8} (h : RowSt l l1 rows pss) (he : Exp l1 true (c :: r) ps) (hc : (c.toNat : Int) = 59) : ∃ e, RowSt l r (rows ++ [e]) (pss ++ [ps]) := by
 obtain ⟨x, rfl, h1, h2, h3⟩ := h.ex
 obtain ⟨y, rfl, g1, g2⟩ := he
 obtain ⟨hp, hs, _⟩ := g1 rfl
 refine ⟨bare y, ⟨x ++ y ++ [c], by simp, fun i => ?_, fun q => ?_, ?_⟩, h.rs.snoc hs⟩
 ·rw [h1, hp 0 0 _ (by omega), plc_row hc]
  congr 1
  simp; omega
 ·simp only [bare_append, u8_59 hc, List.append_assoc]
  rw [show bare [59] = [59] from rfl, h2, List.cons_append, List.nil_append, split_cons 59 _ q (exp_ne hs)]
  rfl
 ·intro k hk
  simp only [bare_append, u8_59 hc, List.mem_append] at hk
  rcases hk with (hk | hk) | hk
  ·exact h3 k hk
  ·exact (hs.chars k hk).2.2.2
  ·rw [show bare [59] = [59] from rfl] at hk
   simp at hk; subst hk; decide
theorem RowSt.fin_no {l l1 l' : List UInt8} {rows : List (List UInt8)} {pss : List (List Pt)} {ps : List Pt} (h : RowSt l l1 rows pss) (he : Exp l1 true l' ps) (h59 : ¬ hd l' = 59) (hn : l' ≠ []) (rows' : List (List UInt8)) (pss' : List (List Pt)) : RowEnd l false l' rows' pss' := by
 obtain ⟨x, rfl, h1, h2, h3⟩ := h.ex
 obtain ⟨y, rfl, g1, g2⟩ := he
 obtain ⟨hp, hs, hh⟩ := g1 rfl
 refine ⟨(fun h0 => by cases h0), fun _ => ⟨x ++ y, by simp, fun i => ?_⟩⟩
 rw [h1, hp 0 0 _ (by omega), plc_fail0 l' hn hh.1 hh.2 h59]; simp; omega
theorem RowSt.fin_yes {l l1 : List UInt8} {rows : List (List UInt8)} {pss : List (List Pt)} {ps : List Pt} (h : RowSt l l1 rows pss) (he : Exp l1 true [] ps) : ∃ e, RowEnd l true [] (rows ++ [e]) (pss ++ [ps]) := by
 obtain ⟨x, rfl, h1, h2, h3⟩ := h.ex
 obtain ⟨y, rfl, g1, g2⟩ := he
 obtain ⟨hp, hs, hh⟩ := g1 rfl
 refine ⟨bare y, fun _ => ⟨fun i => ?_, ?_, ?_, h.rs.snoc hs⟩, (fun h0 => by cases h0)⟩
 ·rw [h1, hp 0 0 _ (by omega)]; rfl
 ·simp only [List.append_nil, bare_append]
  rw [h2, split_one 59 _ (exp_ne hs)]
 ·intro k hk
  simp only [List.append_nil, bare_append, List.mem_append] at hk
  rcases hk with hk | hk
  ·exact h3 k hk
  ·exact (hs.chars k hk).2.2.2
end Db
namespace Go.Proofs.YtdchbenfccofpaaGreatDoor
open Go.RowKit Db
theorem info_row : (Tryz.prog.info? 165).map (fun i => (i.zero, i.size, i.bytes)) = some (some (.agg #[.slice none 0 0]), 1, 24) := by kernel_rfl
theorem own_apart {w : World} {B B' : Nat} {e e' : TypeId} {s s' : Nat} {v v' : Value} {n n' : Nat} {xs xs' : List Value} (h : w.ownsRow B e s v n xs) (h' : w.ownsRow B' e' s' v' n' xs') (hne : e ≠ e') : v.ownBlock = none ∨ v.ownBlock ≠ v'.ownBlock := by
 rcases h.2 with ⟨rfl, _⟩ | ⟨g, cap, cur, rfl, _, hg, _⟩
 ·exact .inl rfl
 ·refine .inr (fun eq => ?_)
  rcases h'.2 with ⟨rfl, _⟩ | ⟨g', cap', cur', rfl, _, hg', _⟩
  ·simp [Value.ownBlock] at eq
  ·simp [Value.ownBlock] at eq
   subst eq
   rw [hg] at hg'
   simp at hg'
   exact hne hg'.2
structure RowsAt (w : World) (B : Nat) (vr : Value) (vs : List Value) (pss : List (List Pt)) : Prop where
 own : w.ownsRow B 165 1 vr vs.length vs
 len : vs.length = pss.length
 row : ∀ (i : Nat) v ps, vs[i]? = some v → pss[i]? = some ps → w.ownsRow B 197 2 v ps.length (cellsP ps)
 bd : ∀ ps ∈ pss, ps.length ≤ 200
theorem RowsAt.nil (w : World) (B : Nat) : RowsAt w B (.slice none 0 0) [] [] := ⟨World.ownsRow_nil _ _ _ _, rfl, (by intro i v ps h; simp at h), by simp⟩
theorem RowsAt.frm {w w' : World} {B : Nat} {X : Nat → Prop} {vr : Value} {vs : List Value} {pss : List (List Pt)} (h : RowsAt w B vr vs pss) (hf : Frm w.heap.size X w w') (hx : ∀ k, B ≤ k → k < w.heap.size → ¬ X k) : RowsAt w' B vr vs pss :=
 ⟨oFrm h.own hf (fun k hk => ⟨(h.own.lt k hk).2, hx k (h.own.lt k hk).1 (h.own.lt k hk).2⟩), h.len,
  fun i v ps h1 h2 => oFrm (h.row i v ps h1 h2) hf (fun k hk => ⟨((h.row i v ps h1 h2).lt k hk).2, hx k ((h.row i v ps h1 h2).lt k hk).1 ((h.row i v ps h1 h2).lt k hk).2⟩), h.bd⟩
theorem RowsAt.kept {w w' : World} {B : Nat} {vr : Value} {vs : List Value} {pss : List (List Pt)} (h : RowsAt w B vr vs pss) (hb : Below w.heap.size w w') : RowsAt w' B vr vs pss :=
 h.frm (X := fun _ => False) hb.frm (fun _ _ _ h => h)
theorem RowsAt.snoc {W w5 : World} {B : Nat} {vr vr' v2 : Value} {vs : List Value} {pss : List (List Pt)} {ps2 : List Pt} (h : RowsAt W B vr vs pss) (o : Obj)
  (hv : W.ownsRow B 197 2 v2 ps2.length (cellsP ps2)) (hown : w5.ownsRow B 165 1 vr' (vs.length + 1) (vs ++ [v2])) (hgr : (W.alloc o).grownBy w5 vr.ownBlock) (hbd : ps2.length ≤ 200) : RowsAt w5 B vr' (vs ++ [v2]) (pss ++ [ps2]) := by
 refine ⟨by simpa using hown, by simp [h.len], ?_, by intro q hq; simp at hq; rcases hq with hq | rfl; exact h.bd q hq; exact hbd⟩
 intro i v ps h1 h2
 by_cases hi : i < vs.length
 ·rw [List.getElem?_append_left hi] at h1
  rw [List.getElem?_append_left (by rw [← h.len]; exact hi)] at h2
  exact ((h.row i v ps h1 h2).alloc o).kept hgr (own_apart (h.row i v ps h1 h2) h.own (by decide))
 ·rw [List.getElem?_append_right (by omega)] at h1
  rw [List.getElem?_append_right (by rw [← h.len]; omega)] at h2
  rw [← h.len] at h2
  match hk : i - vs.length, h1, h2 with
  | 0, h1, h2 =>
   simp at h1 h2
   subst h1 h2
   exact (hv.alloc o).kept hgr (own_apart hv h.own (by decide))
  | k + 1, h1, h2 => simp at h1
theorem RowsAt.reader {w w' : World} {B b : Nat} {vr v2 : Value} {vs : List Value} {pss : List (List Pt)} {ps2 : List Pt} (h : RowsAt w B vr (vs ++ [v2]) (pss ++ [ps2])) (hl : vs.length = pss.length) (hb : b < B)
  (hne : ∀ (i : Nat) v k, vs[i]? = some v → v.ownBlock = some k → some k ≠ v2.ownBlock) (hf : Frm w.heap.size (XR b v2) w w') (hv : w'.ownsRow B 197 2 v2 ps2.length (cellsP ps2)) : RowsAt w' B vr (vs ++ [v2]) (pss ++ [ps2]) := by
 have hv0 := h.row vs.length v2 ps2 (by simp) (by rw [hl]; simp)
 refine ⟨oFrm h.own hf (fun k hk => ⟨(h.own.lt k hk).2, ?_⟩), h.len, ?_, h.bd⟩
 ·rintro (e | e)
  ·have := (h.own.lt k hk).1; omega
  ·rcases own_apart hv0 h.own (by decide) with h1 | h1
   ·rw [h1] at e; cases e
   ·exact h1 (e.symm.trans hk.symm)
 ·intro i v ps h1 h2
  have h0 := h.row i v ps h1 h2
  by_cases hi : i < vs.length
  ·rw [List.getElem?_append_left hi] at h1
   refine oFrm h0 hf (fun k hk => ⟨(h0.lt k hk).2, ?_⟩)
   rintro (e | e)
   ·have := (h0.lt k hk).1; omega
   ·exact hne i v k h1 hk e
  ·rw [List.getElem?_append_right (by omega)] at h1
   rw [List.getElem?_append_right (by rw [← hl]; omega)] at h2
   rw [← hl] at h2
   match hk : i - vs.length, h1, h2 with
   | 0, h1, h2 =>
    simp at h1 h2
    subst h1 h2
    exact hv
   | k + 1, h1, h2 => simp at h1
theorem RdR.clear {b : Nat} {t : ByteArray} {v v' : Value} {w w1 : World} {a : Nat} {ps : List Pt} (h : RdR b t v w w1 a v' ps) : RdR b t v w (w1.setCell ⟨b, 2, none⟩ (.slice none 0 0)) a (.slice none 0 0) [] := by
 refine h.trans ⟨⟨?_, World.ownsRow_nil _ _ _ _, h.rd.le, Nat.zero_le _, h.rd.sz⟩, (Frm.refl _ _ _).setCell (.inr (.inl rfl)) _, .inr (fun k hk => by simp [Value.ownBlock] at hk)⟩
 have := h.rd.blk.set 2 (.slice none 0 0)
 simpa using this
def RLoop (l : List UInt8) (more : Bool) (l' : List UInt8) (pss : List (List Pt)) : Prop :=
 (more = true → ∃ rows, RowSt l l' rows pss) ∧ (more = false → ∃ l1 rows pss0 ps, RowSt l l1 rows pss0 ∧ Exp l1 true l' ps ∧ ¬ hd l' = 59 ∧ pss = pss0 ++ [ps])
theorem rows_any (b : Nat) (t : ByteArray) (p : Nat) (v : Value) (ps : List Pt) (w : World) (h : Rd w b t p v ps) :
   Calls Tryz.prog 128 #[.pointer (some ⟨b, 0, none⟩)] w fun e w' => ∃ ok vr p' v' ps' rows pss, e = .returned (.tuple #[vr, .bool ok]) ∧ RowEnd ((L t).drop p) ok ((L t).drop p') rows pss ∧
     (ok = true → ∃ vs, RowsAt w' w.heap.size vr vs pss) ∧ (ok = false → vr = .slice none 0 0) ∧ p ≤ p' ∧ RdR b t v w w' p' v' ps' := by
 obtain ⟨ii, hi, hz0, hz1, hz2⟩ := info_parts info_row
 have hsz := h.sz
 have Hfr := hI h.fresh
 have hbw := h.blk.lt
 have H := hI h
 clear h
 go_enter Tryz.func128, Tryz.ntmps128
 go_wp2_with fail
 go_loopg [4, 5] (2 * (t.size - p) + 1) (fun m vr mo wr => ∃ k, ∃ more : Bool, ∃ v1 ps1 vs pss, p ≤ k ∧ k ≤ t.size ∧ m = 2 * (t.size - k) + (if more then 1 else 0) ∧ mo = .bool more ∧ vs.length ≤ k ∧ Hid (RLoop ((L t).drop p) more ((L t).drop k) pss) ∧
     Hid (RowsAt wr w.heap.size vr vs pss) ∧ Hid (RdR b t v w wr k v1 ps1))
 case atStart => exact ⟨p, true, v, ps, [], [], Nat.le_refl _, H.u.le, rfl, rfl, Nat.zero_le _, ⟨fun _ => ⟨[], RowSt.start _⟩, (fun h0 => by cases h0)⟩, RowsAt.nil _ _, RdR.refl H.u⟩
 case round =>
   obtain ⟨k, more, v1, ps1, vs, pss, hpk, hk, rfl, rfl, hpl, Hl, Ho, Hr⟩ := hrel
   have hwr := Hr.u.frm.size
   obtain ⟨aop, capp, hvp⟩ := oForm Ho.u.own
   subst hvp
   have c2 := Hr.u.rd.c2
   have z2 := Hr.u.rd.z2
   cases more with
   | true =>
     have Hrc := hI Hr.u.clear
     have Hoc : Hid (RowsAt (wr.setCell ⟨b, 2, none⟩ (.slice none 0 0)) w.heap.size (.slice aop vs.length capp) vs pss) :=
       Ho.u.frm (X := fun j => j = b) (Frm.setCell (X := fun j => j = b) (Frm.refl _ _ _) (p := ⟨b, 2, none⟩) (.inr rfl) _) (fun j hj _ e => by omega)
     go_wp2_with fail
     refine (expression_any b t k (.slice none 0 0) [] _ Hrc.u.rd).mono ?_
     rintro e w1 ⟨ok, k1, v2, ps2, rfl, hexp, hle, hr1⟩
     rw [List.nil_append] at hr1
     have Hr1 := hI hr1
     have H1 := hI (Hrc.u.trans hr1)
     have Ho1 := hI (Hoc.u.frm hr1.frm (fun j hj _ hx => by rcases hx with hx | hx; omega; simp [Value.ownBlock] at hx))
     have hk1 := hr1.rd.le
     have Hexp := hI hexp
     clear hr1 hexp
     cases ok with
     | false =>
       go_wp2_with fail
       go_ret2
       obtain ⟨rows, hst⟩ := Hl.u.1 rfl
       exact ⟨false, _, k1, v2, ps2, [], [], rfl, hst.no Hexp.u [] [], (fun h0 => by cases h0), fun _ => rfl, by omega, H1.u⟩
     | true =>
       have Hv2 : Hid (w1.ownsRow w.heap.size 197 2 v2 ps2.length (cellsP ps2)) := by
         refine oBase Hr1.u.rd.own (fun j hj => ?_)
         rcases Hr1.u.own with e | e
         · rw [e] at hj; simp [Value.ownBlock] at hj
         · have := e j hj; simp [World.setCell] at this; omega
       have Hne : Hid (∀ (i : Nat) x j, vs[i]? = some x → x.ownBlock = some j → some j ≠ v2.ownBlock) := by
         intro i x j hx hj e
         obtain ⟨q, hq⟩ : ∃ q, pss[i]? = some q := by
           have := (List.getElem?_eq_some_iff.1 hx).1
           exact ⟨pss[i]'(by rw [← Ho.u.len]; exact this), List.getElem?_eq_getElem _⟩
         have h1 := ((Hoc.u.row i x q hx hq).lt j hj).2
         rcases Hr1.u.own with e2 | e2
         · rw [e2] at e; simp [Value.ownBlock] at e
         · have := e2 j e.symm; omega
       obtain ⟨ao2, cap2, hv2⟩ := oForm Hv2.u
       subst hv2
       have d2 := Hr1.u.rd.c2
       have hsz1 := H1.u.frm.size
       have hlt : k < k1 := by
         obtain ⟨x, hx, g1, _⟩ := Hexp.u
         have hs := (g1 rfl).2.1
         have hl := congrArg List.length hx
         simp only [List.length_append, List.length_drop, L_length] at hl
         have hn : 0 < x.length := Nat.lt_of_lt_of_le hs.pos (bare_le x)
         omega
       clear c2 z2
       go_wp2_with (first
         | (at_builtin; refine wpList_append_own _ rfl (.tmp 15) (.tmp 21) 108 rfl w.heap.size 165 ii (.agg #[.slice none 0 0]) 1 24 Tryz.underlying108 hi hz0 hz1 hz2 rfl (by decide) (.slice aop vs.length capp) vs.length _ rfl (Ho1.u.own.alloc _) ⟨w1.heap.size, 0, none⟩ 1 1 [.slice ao2 ps2.length cap2] rfl rfl (cell_one_new _ _ _) (fun x hx => by simp at hx; subst hx; rfl) (by unfold maxLen; omega) (by omega) (by simp; omega) ?_; intro vr' w5 hown5 hgr5 _; obtain ⟨gf, cf, rfl, hgf, hgf'⟩ := oSome hown5 (Nat.succ_pos _)))
       have Ho5 := hI (Ho1.u.snoc _ Hv2.u hown5 hgr5 (by omega))
       have H5 := hI ((H1.u.alloc _).grown hgr5 (fun j hj => ⟨(Ho1.u.own.lt j hj).1, by
         rintro (e | e)
         · have := (Ho1.u.own.lt j hj).1; omega
         · rcases own_apart Hv2.u Ho1.u.own (by decide) with h1 | h1
           · rw [h1] at e; cases e
           · exact h1 (e.symm.trans hj.symm)⟩))
       clear hown5 hgr5
       go_wp2_with fail
       refine (accept_any b t k1 _ ps2 59 _ H5.u.rd (by omega)).mono ?_
       rintro e w6 ⟨k2, x2, hs2, ⟨hn2, rfl, hr2⟩ | ⟨y2, hy2, hl2, rfl, hr2⟩⟩
       · have Heq := hI (skp_same hs2 (got_H Hexp.u).1)
         have H6 := hI (H5.u.trans hr2)
         have Ho6 := hI (Ho5.u.reader Ho.u.len hbw Hne.u hr2.frm (oBase hr2.rd.own (fun j hj => (Hv2.u.lt j hj).1)))
         have hk2 := hr2.rd.le
         have hle2 := hs2.le
         have Hn2 := hI hn2
         clear hs2 hn2 hr2
         go_wp2_with fail
         go_roundg (2 * (t.size - k2) + 0)
         case measure => simp; omega
         case rel =>
           refine ⟨k2, false, _, _, _, _, by omega, hk2, by simp, rfl, ?_, ⟨(fun h0 => by cases h0), fun _ => ?_⟩, Ho6.u, H6.u⟩
           · simp; omega
           · obtain ⟨rows, hst⟩ := Hl.u.1 rfl
             exact ⟨_, rows, pss, ps2, hst, by rw [← Heq.u]; exact Hexp.u, Hn2.u, rfl⟩
       · have hnb := (got_H Hexp.u).1
         have Heq := hI (skp_same hs2 hnb)
         have H6 := hI (H5.u.trans hr2)
         have Ho6 := hI (Ho5.u.reader Ho.u.len hbw Hne.u hr2.frm (oBase hr2.rd.own (fun j hj => (Hv2.u.lt j hj).1)))
         have hk2 := hr2.rd.le
         have hle2 := hs2.le
         have Hy2 := hI hy2
         have Hl2 := hI hl2
         clear hs2 hy2 hl2 hr2 hnb
         go_wp2_with fail
         go_roundg (2 * (t.size - (k2 + 1)) + 1)
         case measure => simp; omega
         case rel =>
           refine ⟨k2 + 1, true, _, _, _, _, by omega, hk2, by simp, rfl, ?_, ⟨fun _ => ?_, (fun h0 => by cases h0)⟩, Ho6.u, H6.u⟩
           · simp; omega
           · obtain ⟨rows, hst⟩ := Hl.u.1 rfl
             obtain ⟨e, he⟩ := hst.semi (by rw [← Hl2.u, ← Heq.u]; exact Hexp.u) Hy2.u
             exact ⟨_, he⟩
   | false =>
     obtain ⟨l1, rows, pss0, ps0, hst, hexp, h59, rfl⟩ := Hl.u.2 rfl
     have Hst := hI hst
     have Hexp := hI hexp
     have H59 := hI h59
     have c0 := Hr.u.rd.c0
     have c1 := Hr.u.rd.c1
     clear hst hexp h59 c2 z2
     by_cases hlt : k < t.size
     · have d1 : decide ((k : Int) < (t.size : Int)) = true := by simp; omega
       go_wp2_with fail
       go_quiet (fail)
       go_wp2_with fail
       go_ret2
       exact ⟨false, _, k, v1, ps1, [], [], rfl, Hst.u.fin_no Hexp.u H59.u (by rw [L_drop t k hlt]; simp) [] [], (fun h0 => by cases h0), fun _ => rfl, hpk, Hr.u.draws _⟩
     · have d1 : decide ((k : Int) < (t.size : Int)) = false := by simp; omega
       have Hz := hI (L_drop_end t k (by omega))
       go_wp2_with fail
       go_quiet (fail)
       go_wp2_with fail
       go_ret2
       obtain ⟨e, he⟩ := Hst.u.fin_yes (by rw [← Hz.u]; exact Hexp.u)
       refine ⟨true, .slice aop vs.length capp, k, v1, ps1, rows ++ [e], pss0 ++ [ps0], rfl, by rw [Hz.u]; exact he, fun _ => ⟨vs, ?_⟩, (fun h0 => by cases h0), hpk, Hr.u.draws _⟩
       exact ⟨Ho.u.own, Ho.u.len, Ho.u.row, Ho.u.bd⟩
def cellsG (l : List Cl) : List Value := l.flatMap fun c => [.int .i64 (gst c.2), .int .i64 c.1]
theorem cellsG_snoc (l : List Cl) (c : Cl) : cellsG (l ++ [c]) = cellsG l ++ [.int .i64 (gst c.2), .int .i64 c.1] := by simp [cellsG]
theorem cellsG_append (p q : List Cl) : cellsG (p ++ q) = cellsG p ++ cellsG q := by simp [cellsG]
theorem cellsG_length (p : List Cl) : (cellsG p).length = p.length * 2 := by
 induction p with
 | nil => rfl
 | cons x t ih => show (_ :: _ :: cellsG t).length = _; simp [ih]; omega
structure GCells (w : World) (B : Nat) (vc : Value) (vs : List Value) (cells : List (List Cl)) : Prop where
 own : w.ownsRow B 202 1 vc vs.length vs
 len : vs.length = cells.length
 row : ∀ (i : Nat) v c, vs[i]? = some v → cells[i]? = some c → w.ownsRow B 205 2 v c.length (cellsG c)
theorem GCells.kept {w w' : World} {B : Nat} {vc : Value} {vs : List Value} {cells : List (List Cl)} (h : GCells w B vc vs cells) (hb : Below w.heap.size w w') : GCells w' B vc vs cells :=
 ⟨oBelow h.own hb, h.len, fun i v c h1 h2 => oBelow (h.row i v c h1 h2) hb⟩
theorem GCells.nil (w : World) (B : Nat) : GCells w B (.slice none 0 0) [] [] := ⟨World.ownsRow_nil _ _ _ _, rfl, by intro i v c h; simp at h⟩
structure ShtAt (w : World) (q : Nat) (b : Bk) (pd : List (List UInt8 × List UInt8)) (cells : List (List Cl)) (p : Nat) (vp vc : Value) (vs : List Value) : Prop where
 blk : Blk w q #[vp, .pointer (some ⟨p, 0, none⟩), vc] 162
 led : ∃ B, Led w B p b
 per : ∃ B, w.ownsRow B 177 2 vp pd.length (cellsD pd)
 cs : GCells w (q + 1) vc vs cells
 wid : ∀ row ∈ cells, row.length = pd.length
 few : pd.length ≤ 4 ∧ cells.length ≤ 8
 ok : ∀ row ∈ cells, ∀ c ∈ row, ClOk c
theorem Led.kept {w w' : World} {B p : Nat} {s : Bk} (h : Led w B p s) (hb : Below w.heap.size w w') : Led w' B p s := by
 obtain ⟨a, c, d, k, h⟩ := h
 exact ⟨a, c, d, k, h.kept hb⟩
theorem ShtAt.kept {w w' : World} {q : Nat} {b : Bk} {pd : List (List UInt8 × List UInt8)} {cells : List (List Cl)} {p : Nat} {vp vc : Value} {vs : List Value} (h : ShtAt w q b pd cells p vp vc vs) (hb : Below w.heap.size w w') : ShtAt w' q b pd cells p vp vc vs :=
 ⟨h.blk.kept hb, (let ⟨B, hl⟩ := h.led; ⟨B, hl.kept hb⟩), (let ⟨B, hl⟩ := h.per; ⟨B, oBelow hl hb⟩), h.cs.kept hb, h.wid, h.few, h.ok⟩
def Sht' (w : World) (q : Nat) (b : Bk) (pd : List (List UInt8 × List UInt8)) (cells : List (List Cl)) : Prop := ∃ p vp vc vs, ShtAt w q b pd cells p vp vc vs
theorem Sht'.kept {w w' : World} {q : Nat} {b : Bk} {pd : List (List UInt8 × List UInt8)} {cells : List (List Cl)} (h : Sht' w q b pd cells) (hb : Below w.heap.size w w') : Sht' w' q b pd cells := by
 obtain ⟨p, vp, vc, vs, h⟩ := h
 exact ⟨p, vp, vc, vs, h.kept hb⟩
theorem Sht'.good {w : World} {q : Nat} {b : Bk} {pd : List (List UInt8 × List UInt8)} {cells : List (List Cl)} (h : Sht' w q b pd cells) : BkGood b := by
 obtain ⟨_, _, _, _, h⟩ := h
 obtain ⟨_, _, _, _, _, h⟩ := h.led
 exact h.good
theorem namesAccount_any (s n : Int) (w : World) :
  Calls Tryz.prog 131 #[.agg #[.int .u8 s, .int .i64 n]] w fun e w' => e = .returned (.bool (selB s)) ∧ Below w.heap.size w w' := by
 by_cases h1 : (s == 64) = true <;> by_cases h2 : (s == 33) = true
 all_goals
  go_enter Tryz.func131, Tryz.ntmps131
  go_wp2_with fail
  go_ret
  exact ⟨by simp_all [selB], (Below.refl _ _).alloc (Nat.le_refl _) _⟩
theorem has_any (B p : Nat) (s : Bk) (a : Int) (w : World) (h : Led w B p s) :
  Calls Tryz.prog 132 #[.pointer (some ⟨p, 0, none⟩), .int .i64 a] w fun e w' => e = .returned (.bool (ther s a)) ∧ w' = w := by
 obtain ⟨va, vt, tv, dk, h⟩ := h
 obtain ⟨g, cap, rfl, hg, hg'⟩ := oSome h.acs h.good.one
 have c0 := h.blk.cell 0
 have hpl := h.blk.lt
 simp only [List.getElem?_toArray, List.getElem?_cons_zero] at c0
 have hfew := h.good.few
 obtain ⟨r, hr⟩ : ∃ r, ther s a = r := ⟨_, rfl⟩
 rw [hr]
 unfold ther at hr
 clear h
 by_cases h1 : 0 ≤ a
 ·by_cases h2 : a < s.acs.length
  ·obtain rfl : r = true := by rw [← hr]; simp [h1, h2]
   clear hr
   go_enter Tryz.func132, Tryz.ntmps132
   go_wp2_with fail
   go_ret
   exact ⟨rfl, rfl⟩
  ·obtain rfl : r = false := by rw [← hr]; simp [h2]
   clear hr
   go_enter Tryz.func132, Tryz.ntmps132
   go_wp2_with fail
   go_ret
   exact ⟨rfl, rfl⟩
 ·obtain rfl : r = false := by rw [← hr]; simp [h1]
  clear hr
  go_enter Tryz.func132, Tryz.ntmps132
  go_wp2_with fail
  go_ret
  exact ⟨rfl, rfl⟩
theorem gText_any (c : Cl) (w : World) (hc : ClOk c) (ht : Tab w) :
  Calls Tryz.prog 134 #[gV c] w fun e w' => ∃ u : ByteArray, e = .returned (.string u) ∧ L u = cellT c ∧ u.size ≤ 21 ∧ Below w.heap.size w w' := by
 rcases hc with ⟨h0, hin⟩ | rfl | rfl
 ·obtain ⟨a, b⟩ := c
  simp only at h0 hin
  subst h0
  unfold gV
  rw [gst_z0]
  have hr := inR_iff.1 hin
  have Ht := hI ht
  simp only
  clear hin ht
  go_enter Tryz.func134, Tryz.ntmps134
  go_wp2_with fail
  refine (itoa_any a _ hr.1 hr.2 (Ht.u.below (by exact (Below.refl _ _).alloc (Nat.le_refl _) _))).mono ?_
  rintro e w1 ⟨u, rfl, hu, hb⟩
  have Hu := hI hu
  have Hb : Hid (Below w.heap.size w w1) := ((Below.refl _ _).alloc (Nat.le_refl _) _).then' (by simp) hb
  clear hu hb
  go_wp2_with fail
  go_ret
  exact ⟨u, rfl, Hu.u, itoa_size hr.1 hr.2 Hu.u, Hb.u⟩
 all_goals
  unfold gV gst
  clear ht
  go_enter Tryz.func134, Tryz.ntmps134
  go_wp2_with fail
  go_ret
  exact ⟨_, rfl, rfl, by decide, (Below.refl _ _).alloc (Nat.le_refl _) _⟩
end Go.Proofs.YtdchbenfccofpaaGreatDoor
namespace Db
theorem rowOk_of {e : List UInt8} {ps : List Pt} (h : ExpS e ps) (hl : e.length ≤ 200) : RowOk e ps := by
 refine ⟨h.wf, ?_, ?_, ?_, hl, h.num⟩
 ·have := h.old [] trivial
  simpa using this
 ·intro row
  have := h.rch row []
  simpa [rch] using this
 ·intro q
  have := h.sel q [] (by rfl)
  simpa [strg] using this
theorem form_of {l l1 : List UInt8} {pd : List (List UInt8 × List UInt8)} {rows : List (List UInt8)} {pss : List (List Pt)} {l2 : List UInt8} (hl : l.length ≤ 200) (hp : PerEnd l true l1 pd) (hr : RowEnd l1 true l2 rows pss) : Form l pd rows pss := by
 obtain ⟨⟨x, rfl, h1, _⟩, hd⟩ := hp
 obtain ⟨h2, y, h3, h4, h5⟩ := h1 rfl
 obtain ⟨g1, g2, g3, g4⟩ := hr.yes rfl
 refine ⟨?_, ⟨⟨y, bare l1, ?_, h4, g2⟩, hd rfl⟩, g4.1, ?_⟩
 ·rw [h2, g1]
 ·rw [bare_append, h3, List.append_assoc, List.cons_append, List.nil_append]
  exact split_two 124 y (bare l1) (fun c hc e => h5 c hc (by rw [e]; rfl)) (fun c hc e => g3 c hc (by rw [e]; rfl))
 ·intro i e ps he hps
  refine rowOk_of (g4.2 i e ps he hps) ?_
  have hm : e ∈ split (bare l1) 59 := by rw [g2]; exact List.mem_of_getElem? he
  have h6 := split_le (bare l1) 59 e hm
  have h7 := bare_le l1
  simp at hl
  omega
end Db
namespace Go.Proofs.YtdchbenfccofpaaGreatDoor
open Go.RowKit Db
theorem RowsAt.base {w : World} {B B' : Nat} {vr : Value} {vs : List Value} {pss : List (List Pt)} (h : RowsAt w B vr vs pss) (hB : B' ≤ B) : RowsAt w B' vr vs pss :=
 ⟨oBase h.own (fun k hk => Nat.le_trans hB (h.own.lt k hk).1), h.len, fun i v ps h1 h2 => oBase (h.row i v ps h1 h2) (fun k hk => Nat.le_trans hB ((h.row i v ps h1 h2).lt k hk).1), h.bd⟩
theorem fail_place {t : ByteArray} {p p' : Nat} {x : List UInt8} (h : (L t).drop p = x ++ (L t).drop p') (hp : p ≤ p') (hp' : p' ≤ t.size) : (p : Int) + x.length = p' := by
 have hl := congrArg List.length h
 simp only [List.length_append, List.length_drop, L_length] at hl
 omega
def FormR (w : World) (t : ByteArray) (e : Ending) (w' : World) : Prop :=
 (∃ p : Int, e = .returned (.tuple #[.agg #[.slice none 0 0, .slice none 0 0], .int .i64 p, .bool false]) ∧ plc 0 0 0 0 (L t) = p ∧ 0 ≤ p ∧ Below w.heap.size w w') ∨
 (∃ vp vr pd rows pss vs, e = .returned (.tuple #[.agg #[vp, vr], .int .i64 0, .bool true]) ∧ Db.Form (L t) pd rows pss ∧ w'.ownsRow w.heap.size 177 2 vp pd.length (cellsD pd) ∧ RowsAt w' w.heap.size vr vs pss ∧ Below w.heap.size w w')
theorem readForm_any (t : ByteArray) (w : World) (hsz : t.size ≤ 200) :
  Calls Tryz.prog 92 #[.string t] w fun e w' => FormR w t e w' := by
 have H0 : Hid (Rd ((w.alloc (.cells #[.slice none 0 0, .slice none 0 0] 110)).alloc (.cells #[.string t, .int .i64 0, .slice none 0 0] 191)) (w.heap.size + 1) t 0 (.slice none 0 0) []) := by
  refine ⟨?_, World.ownsRow_nil _ _ _ _, Nat.zero_le _, Nat.zero_le _, hsz⟩
  have := Blk.new (w.alloc (.cells #[.slice none 0 0, .slice none 0 0] 110)) #[.string t, .int .i64 0, .slice none 0 0] 191
  simpa using this
 go_enter Tryz.func92, Tryz.ntmps92
 go_wp2_with fail
 refine (periods_any (w.heap.size + 1) t 0 (.slice none 0 0) [] _ H0.u).mono ?_
 rintro e w1 ⟨ok, vp, p1, pd, rfl, hpe, hvp, hnp, hle1, hr1⟩
 have hs1 := hr1.frm.size
 simp at hs1
 have HB1 : Hid (Blk w1 w.heap.size #[.slice none 0 0, .slice none 0 0] 110) := ((Blk.new _ _ _).alloc _).frm hr1.frm (by simp; omega) (by rintro (h | h); omega; simp [Value.ownBlock] at h)
 have Hb1 : Hid (Below w.heap.size w w1) := (((Below.refl _ _).alloc (Nat.le_refl _) _).alloc (by simp) _).trans (hr1.frm.below (by simp; omega) (fun k hk => by rintro (h | h); omega; simp [Value.ownBlock] at h))
 have Hr1 := hI hr1
 have Hpe := hI hpe
 have c0 := HB1.u.cell 0
 have c1 := HB1.u.cell 1
 have z0 := HB1.u.frozen 0
 have z1 := HB1.u.frozen 1
 have d1 := hr1.rd.c1
 have hpz := hr1.rd.le
 simp only [List.getElem?_toArray, List.getElem?_cons_zero, List.getElem?_cons_succ] at c0 c1
 clear hr1 hpe
 cases ok with
 | false =>
  obtain rfl := hnp rfl
  clear hvp hnp
  go_wp2_with fail
  go_region
  go_wp2_with fail
  refine bodyPost_ret (v := .tuple #[.agg #[.slice none 0 0, .slice none 0 0], .int .i64 p1, .bool false]) (by simp [results, Tryz.results92, go_sem, c0, c1]) rfl (.inl ⟨p1, rfl, ?_, by omega, ?_⟩)
  ·obtain ⟨⟨x, hx, _, h2⟩, _⟩ := Hpe.u
   have h3 := h2 rfl 0
   have h4 := fail_place hx hle1 hpz
   rw [List.drop_zero] at h3
   rw [h3]
   simpa using h4
  ·exact ((Hb1.u.drew).setCell (by simp) _).setCell (by simp) _
 | true =>
  have hvp := hvp rfl
  obtain ⟨aop, capp, rfl⟩ := oForm hvp
  have Hvp := hI hvp
  clear hvp hnp
  go_wp2_with fail
  refine (rows_any (w.heap.size + 1) t p1 (.slice none 0 0) [] _ Hr1.u.rd).mono ?_
  rintro e w2 ⟨ok, vr, p2, v2, ps2, rows, pss, rfl, hre, hvr, hnr, hle2, hr2⟩
  have hs2 := hr2.frm.size
  have HB2 : Hid (Blk w2 w.heap.size #[.slice none 0 0, .slice none 0 0] 110) := HB1.u.frm hr2.frm (by omega) (by rintro (h | h); omega; simp [Value.ownBlock] at h)
  have Hb2 : Hid (Below w.heap.size w w2) := Hb1.u.trans (hr2.frm.below (by omega) (fun k hk => by rintro (h | h); omega; simp [Value.ownBlock] at h))
  have Hvp2 : Hid (w2.ownsRow w.heap.size 177 2 (.slice aop pd.length capp) pd.length (cellsD pd)) := by
   have hb : ∀ k, (Value.slice aop pd.length capp).ownBlock = some k → w.heap.size + 2 ≤ k ∧ k < w1.heap.size := fun k hk => by
    have := Hvp.u.lt k hk; simp at this; omega
   exact oBase (oFrm Hvp.u hr2.frm (fun k hk => ⟨(hb k hk).2, by rintro (h | h); have := hb k hk; omega; simp [Value.ownBlock] at h⟩)) (fun k hk => by have := hb k hk; omega)
  have Hre := hI hre
  have e0 := HB2.u.cell 0
  have e1 := HB2.u.cell 1
  have y0 := HB2.u.frozen 0
  have y1 := HB2.u.frozen 1
  have d2 := hr2.rd.c1
  have hpz2 := hr2.rd.le
  simp only [List.getElem?_toArray, List.getElem?_cons_zero, List.getElem?_cons_succ] at e0 e1
  clear hr2 hre c0 c1 z0 z1 d1
  cases ok with
  | false =>
   obtain rfl := hnr rfl
   clear hvr hnr
   go_wp2_with fail
   go_region
   go_wp2_with fail
   refine bodyPost_ret (v := .tuple #[.agg #[.slice none 0 0, .slice none 0 0], .int .i64 p2, .bool false]) (by simp [results, Tryz.results92, go_sem, e0, e1]) rfl (.inl ⟨p2, rfl, ?_, by omega, ?_⟩)
   ·obtain ⟨⟨x, hx, h2, _⟩, _⟩ := Hpe.u
    obtain ⟨y, hy, h5⟩ := Hre.u.no rfl
    have h3 := (h2 rfl).1 0
    have h4 := fail_place hx hle1 hpz
    have h6 := fail_place hy hle2 hpz2
    rw [List.drop_zero] at h3
    rw [h3, h5]
    simp at h4 ⊢
    omega
   ·exact ((Hb2.u.drew).setCell (by simp) _).setCell (by simp) _
  | true =>
   obtain ⟨vs, hvs⟩ := hvr rfl
   obtain ⟨aor, capr, rfl⟩ := oForm hvs.own
   have Hvs := hI hvs
   clear hvr hnr hvs
   go_wp2_with fail
   refine bodyPost_ret (v := .tuple #[.agg #[.slice aop pd.length capp, .slice aor vs.length capr], .int .i64 0, .bool true]) (by simp [results, Tryz.results92, go_sem, e0, e1]) rfl (.inr ⟨_, _, pd, rows, pss, vs, rfl, ?_, ?_, ?_, ?_⟩)
   ·refine form_of (by rw [L_length]; exact hsz) (l1 := (L t).drop p1) (l2 := (L t).drop p2) ?_ Hre.u
    have := Hpe.u
    rwa [List.drop_zero] at this
   ·exact oSetOther (oSetOther Hvp2.u (fun e => by have := Hvp.u.lt _ e.symm; simp at this; omega) _) (fun e => by have := Hvp.u.lt _ e.symm; simp at this; omega) _
   ·refine RowsAt.base (Hvs.u.frm (X := fun k => k = w.heap.size) (Frm.setCell (X := fun k => k = w.heap.size) (Frm.setCell (X := fun k => k = w.heap.size) (Frm.refl _ _ _) (p := ⟨w.heap.size, 0, none⟩) (.inr rfl) _) (p := ⟨w.heap.size, 1, none⟩) (.inr rfl) _) (fun k hk _ h => by omega)) (by omega)
   ·exact (Hb2.u.setCell (by simp) _).setCell (by simp) _
end Go.Proofs.YtdchbenfccofpaaGreatDoor
