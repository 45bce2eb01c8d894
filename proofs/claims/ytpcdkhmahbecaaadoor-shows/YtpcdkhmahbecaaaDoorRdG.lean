/- Walks of the reader: operand behind a sign (laid by genG.py). -/
import Derived.Test.YtpcdkhmahbecaaaDoorRdF
namespace Go.Proofs.YtpcdkhmahbecaaaDoor
open Go.RowKit Db

set_option maxRecDepth 100000 in
set_option maxHeartbeats 2000000 in
theorem operand_64 (b : Nat) (t : ByteArray) (p : Nat) (v : Value) (ps : List Pt) (w : World) (h : Rd w b t p v ps) (h1 : hd ((L t).drop p) = 64) :
    Calls Tryd.prog 112 #[.pointer (some ⟨b, 0, none⟩)] w fun e w' => ∃ ok p' v' ps', e = .returned (.bool ok) ∧ Fac ((L t).drop p) ok ((L t).drop p') ps' ∧ p + ps'.length ≤ p' ∧ RdR b t v w w' p' v' (ps ++ ps') := by
  obtain ⟨ii, hi, hz0, hz1, hz2⟩ := info_parts info_part
  have hsz := h.sz
  have H := hide h
  have H1 := hide h1
  clear h h1
  go_enter Tryd.func112, Tryd.ntmps112
  go_wp2_with fail
  refine (next_any b t p v ps _ (unhide H)).mono ?_
  rintro e w1 ⟨p1, x1, rfl, hr1, hs1⟩
  have Heq := hide (skp_same hs1 (by rw [unhide H1]; decide))
  rw [← unhide Heq, unhide H1]
  have hlt : p1 < t.size := by
    by_cases hh : p1 < t.size
    · exact hh
    · have h2 := unhide H1
      rw [unhide Heq, hd_end t p1 (by omega)] at h2
      cases h2
  have Hl := hide (L_drop t p1 hlt)
  have Hc : Hid ((t[p1].toNat : Int) = 64) := by show _ = _; rw [← hd_drop t p1 hlt, ← unhide Heq]; exact unhide H1
  have c1 := hr1.rd.c1
  have z1 := hr1.rd.z1
  have Hr1 : Hid (RdR b t v w (w1.setCell ⟨b, 1, none⟩ (.int .i64 ((p1 : Int) + 1))) (p1 + 1) v ps) := by
    have := hr1.move (a' := p1 + 1) (by omega) (by have := hr1.rd.cnt; omega)
    show RdR _ _ _ _ _ _ _ _
    simpa using this
  have Hs1 := hide hs1
  clear hr1 hs1
  go_wp2_with fail
  refine (digits_any b t (p1 + 1) v ps 2 _ (unhide Hr1).rd (by omega)).mono ?_
  rintro e w2 ⟨ds, p2, rfl, hg2, he2, hr2⟩
  have Hg2 := hide hg2
  have He2 := hide he2
  have Hr2 := hide ((unhide Hr1).trans hr2)
  clear hg2 he2 hr2
  by_cases hd0 : 0 < ds.length
  · have e1 : decide (0 < ds.length) = true := decide_eq_true hd0
    rw [e1]
    clear e1
    have Hf := hide (sel_yes (c := t[p1]) (by rw [unhide Hc]; rfl) (unhide Hg2) hd0)
    have hcnt := (unhide Hr2).rd.cnt
    have hle := (unhide Hr2).rd.le
    have Hct : Hid (ps.length + 1 ≤ p2) := by have := (unhide H).cnt; have := (unhide Hs1).le; have := unhide He2; show _ ≤ _; omega
    obtain ⟨ao, cap, hv⟩ := ownsRow_form (unhide Hr2).rd.own
    subst hv
    have c2 := (unhide Hr2).rd.c2
    have z2 := (unhide Hr2).rd.z2
    have hbl := (unhide Hr2).rd.blk.lt
    have Hd0 := hide hd0
    clear hd0
    go_wp2_with (first
      | (at_builtin; refine wpList_append_own_at _ rfl (.tmp 46) (.tmp 50) 72 rfl (b + 1) 109 ii (.agg #[.int .u8 0, .int .i64 0]) 2 16 Tryd.underlying72 hi hz0 hz1 hz2 rfl (by decide) (.slice ao ps.length cap) ps.length _ rfl ((unhide Hr2).rd.own.alloc _) ⟨w2.heap.size, 0, none⟩ 1 1 [.int .u8 64, .int .i64 (val ds)] rfl rfl (cell_two_new' _ _ (by simp) _ _ _) (fun x hx => by simp at hx; rcases hx with rfl | rfl <;> rfl) (by unfold maxLen; omega) (by omega) (by simp; omega) ?_; intro v5 w5 hown5 hgr5 _ hat5; obtain ⟨gf, cf, rfl, hgf, hgf'⟩ := ownsRow_some hown5 (Nat.succ_pos _); have HB5 := hide (((unhide Hr2).rd.blk.alloc _).grown hgr5 (own_ne' (unhide Hr2).rd.own (Nat.lt_succ_self b))); have y2 := (unhide HB5).frozen 2; have y3 := (unhide HB5).cell 2; simp only [List.getElem?_toArray, List.getElem?_cons_zero, List.getElem?_cons_succ] at y3; have Hown5 := hide hown5; have Hgr5 := hide hgr5; have Hat5 := hide hat5; clear hown5 hgr5 hat5 c2 z2))
    go_ret
    refine ⟨true, p2, _, [(64, val ds)], rfl, ?_, by have := (unhide Hs1).le; have := unhide He2; have := unhide Hd0; simp; omega, (unhide Hr2).push _ 64 (val ds) (unhide Hown5) (unhide Hgr5) (unhide Hat5) (unhide Hct)⟩
    have := unhide Hf
    rw [unhide Hc] at this
    rw [unhide Heq, unhide Hl]
    exact this
  · have e1 : decide (0 < ds.length) = false := decide_eq_false hd0
    rw [e1]
    clear e1
    have Hf := hide (sel_no (c := t[p1]) (by rw [unhide Hc]; rfl) (unhide Hg2) hd0 [])
    clear hd0
    go_wp2_with fail
    go_ret
    refine ⟨false, p2, v, [], rfl, ?_, by have := (unhide Hs1).le; have := unhide He2; simp; omega, by rw [List.append_nil]; exact unhide Hr2⟩
    rw [unhide Heq, unhide Hl]
    exact unhide Hf

set_option maxRecDepth 100000 in
set_option maxHeartbeats 2000000 in
theorem operand_33 (b : Nat) (t : ByteArray) (p : Nat) (v : Value) (ps : List Pt) (w : World) (h : Rd w b t p v ps) (h1 : hd ((L t).drop p) = 33) :
    Calls Tryd.prog 112 #[.pointer (some ⟨b, 0, none⟩)] w fun e w' => ∃ ok p' v' ps', e = .returned (.bool ok) ∧ Fac ((L t).drop p) ok ((L t).drop p') ps' ∧ p + ps'.length ≤ p' ∧ RdR b t v w w' p' v' (ps ++ ps') := by
  obtain ⟨ii, hi, hz0, hz1, hz2⟩ := info_parts info_part
  have hsz := h.sz
  have H := hide h
  have H1 := hide h1
  clear h h1
  go_enter Tryd.func112, Tryd.ntmps112
  go_wp2_with fail
  refine (next_any b t p v ps _ (unhide H)).mono ?_
  rintro e w1 ⟨p1, x1, rfl, hr1, hs1⟩
  have Heq := hide (skp_same hs1 (by rw [unhide H1]; decide))
  rw [← unhide Heq, unhide H1]
  have hlt : p1 < t.size := by
    by_cases hh : p1 < t.size
    · exact hh
    · have h2 := unhide H1
      rw [unhide Heq, hd_end t p1 (by omega)] at h2
      cases h2
  have Hl := hide (L_drop t p1 hlt)
  have Hc : Hid ((t[p1].toNat : Int) = 33) := by show _ = _; rw [← hd_drop t p1 hlt, ← unhide Heq]; exact unhide H1
  have c1 := hr1.rd.c1
  have z1 := hr1.rd.z1
  have Hr1 : Hid (RdR b t v w (w1.setCell ⟨b, 1, none⟩ (.int .i64 ((p1 : Int) + 1))) (p1 + 1) v ps) := by
    have := hr1.move (a' := p1 + 1) (by omega) (by have := hr1.rd.cnt; omega)
    show RdR _ _ _ _ _ _ _ _
    simpa using this
  have Hs1 := hide hs1
  clear hr1 hs1
  go_wp2_with fail
  refine (digits_any b t (p1 + 1) v ps 2 _ (unhide Hr1).rd (by omega)).mono ?_
  rintro e w2 ⟨ds, p2, rfl, hg2, he2, hr2⟩
  have Hg2 := hide hg2
  have He2 := hide he2
  have Hr2 := hide ((unhide Hr1).trans hr2)
  clear hg2 he2 hr2
  by_cases hd0 : 0 < ds.length
  · have e1 : decide (0 < ds.length) = true := decide_eq_true hd0
    rw [e1]
    clear e1
    have Hf := hide (sel_yes (c := t[p1]) (by rw [unhide Hc]; rfl) (unhide Hg2) hd0)
    have hcnt := (unhide Hr2).rd.cnt
    have hle := (unhide Hr2).rd.le
    have Hct : Hid (ps.length + 1 ≤ p2) := by have := (unhide H).cnt; have := (unhide Hs1).le; have := unhide He2; show _ ≤ _; omega
    obtain ⟨ao, cap, hv⟩ := ownsRow_form (unhide Hr2).rd.own
    subst hv
    have c2 := (unhide Hr2).rd.c2
    have z2 := (unhide Hr2).rd.z2
    have hbl := (unhide Hr2).rd.blk.lt
    have Hd0 := hide hd0
    clear hd0
    go_wp2_with (first
      | (at_builtin; refine wpList_append_own_at _ rfl (.tmp 46) (.tmp 50) 72 rfl (b + 1) 109 ii (.agg #[.int .u8 0, .int .i64 0]) 2 16 Tryd.underlying72 hi hz0 hz1 hz2 rfl (by decide) (.slice ao ps.length cap) ps.length _ rfl ((unhide Hr2).rd.own.alloc _) ⟨w2.heap.size, 0, none⟩ 1 1 [.int .u8 33, .int .i64 (val ds)] rfl rfl (cell_two_new' _ _ (by simp) _ _ _) (fun x hx => by simp at hx; rcases hx with rfl | rfl <;> rfl) (by unfold maxLen; omega) (by omega) (by simp; omega) ?_; intro v5 w5 hown5 hgr5 _ hat5; obtain ⟨gf, cf, rfl, hgf, hgf'⟩ := ownsRow_some hown5 (Nat.succ_pos _); have HB5 := hide (((unhide Hr2).rd.blk.alloc _).grown hgr5 (own_ne' (unhide Hr2).rd.own (Nat.lt_succ_self b))); have y2 := (unhide HB5).frozen 2; have y3 := (unhide HB5).cell 2; simp only [List.getElem?_toArray, List.getElem?_cons_zero, List.getElem?_cons_succ] at y3; have Hown5 := hide hown5; have Hgr5 := hide hgr5; have Hat5 := hide hat5; clear hown5 hgr5 hat5 c2 z2))
    go_ret
    refine ⟨true, p2, _, [(33, val ds)], rfl, ?_, by have := (unhide Hs1).le; have := unhide He2; have := unhide Hd0; simp; omega, (unhide Hr2).push _ 33 (val ds) (unhide Hown5) (unhide Hgr5) (unhide Hat5) (unhide Hct)⟩
    have := unhide Hf
    rw [unhide Hc] at this
    rw [unhide Heq, unhide Hl]
    exact this
  · have e1 : decide (0 < ds.length) = false := decide_eq_false hd0
    rw [e1]
    clear e1
    have Hf := hide (sel_no (c := t[p1]) (by rw [unhide Hc]; rfl) (unhide Hg2) hd0 [])
    clear hd0
    go_wp2_with fail
    go_ret
    refine ⟨false, p2, v, [], rfl, ?_, by have := (unhide Hs1).le; have := unhide He2; simp; omega, by rw [List.append_nil]; exact unhide Hr2⟩
    rw [unhide Heq, unhide Hl]
    exact unhide Hf

set_option maxRecDepth 100000 in
set_option maxHeartbeats 2000000 in
theorem operand_35 (b : Nat) (t : ByteArray) (p : Nat) (v : Value) (ps : List Pt) (w : World) (h : Rd w b t p v ps) (h1 : hd ((L t).drop p) = 35) :
    Calls Tryd.prog 112 #[.pointer (some ⟨b, 0, none⟩)] w fun e w' => ∃ ok p' v' ps', e = .returned (.bool ok) ∧ Fac ((L t).drop p) ok ((L t).drop p') ps' ∧ p + ps'.length ≤ p' ∧ RdR b t v w w' p' v' (ps ++ ps') := by
  obtain ⟨ii, hi, hz0, hz1, hz2⟩ := info_parts info_part
  have hsz := h.sz
  have H := hide h
  have H1 := hide h1
  clear h h1
  go_enter Tryd.func112, Tryd.ntmps112
  go_wp2_with fail
  refine (next_any b t p v ps _ (unhide H)).mono ?_
  rintro e w1 ⟨p1, x1, rfl, hr1, hs1⟩
  have Heq := hide (skp_same hs1 (by rw [unhide H1]; decide))
  rw [← unhide Heq, unhide H1]
  have hlt : p1 < t.size := by
    by_cases hh : p1 < t.size
    · exact hh
    · have h2 := unhide H1
      rw [unhide Heq, hd_end t p1 (by omega)] at h2
      cases h2
  have Hl := hide (L_drop t p1 hlt)
  have Hc : Hid ((t[p1].toNat : Int) = 35) := by show _ = _; rw [← hd_drop t p1 hlt, ← unhide Heq]; exact unhide H1
  have c1 := hr1.rd.c1
  have z1 := hr1.rd.z1
  have Hr1 : Hid (RdR b t v w (w1.setCell ⟨b, 1, none⟩ (.int .i64 ((p1 : Int) + 1))) (p1 + 1) v ps) := by
    have := hr1.move (a' := p1 + 1) (by omega) (by have := hr1.rd.cnt; omega)
    show RdR _ _ _ _ _ _ _ _
    simpa using this
  have Hs1 := hide hs1
  clear hr1 hs1
  go_wp2_with fail
  refine (digits_any b t (p1 + 1) v ps 2 _ (unhide Hr1).rd (by omega)).mono ?_
  rintro e w2 ⟨ds, p2, rfl, hg2, he2, hr2⟩
  have Hg2 := hide hg2
  have He2 := hide he2
  have Hr2 := hide ((unhide Hr1).trans hr2)
  clear hg2 he2 hr2
  by_cases hd0 : 0 < ds.length
  · have e1 : decide (0 < ds.length) = true := decide_eq_true hd0
    rw [e1]
    clear e1
    have Hf := hide (sel_yes (c := t[p1]) (by rw [unhide Hc]; rfl) (unhide Hg2) hd0)
    have hcnt := (unhide Hr2).rd.cnt
    have hle := (unhide Hr2).rd.le
    have Hct : Hid (ps.length + 1 ≤ p2) := by have := (unhide H).cnt; have := (unhide Hs1).le; have := unhide He2; show _ ≤ _; omega
    obtain ⟨ao, cap, hv⟩ := ownsRow_form (unhide Hr2).rd.own
    subst hv
    have c2 := (unhide Hr2).rd.c2
    have z2 := (unhide Hr2).rd.z2
    have hbl := (unhide Hr2).rd.blk.lt
    have Hd0 := hide hd0
    clear hd0
    go_wp2_with (first
      | (at_builtin; refine wpList_append_own_at _ rfl (.tmp 46) (.tmp 50) 72 rfl (b + 1) 109 ii (.agg #[.int .u8 0, .int .i64 0]) 2 16 Tryd.underlying72 hi hz0 hz1 hz2 rfl (by decide) (.slice ao ps.length cap) ps.length _ rfl ((unhide Hr2).rd.own.alloc _) ⟨w2.heap.size, 0, none⟩ 1 1 [.int .u8 35, .int .i64 (val ds)] rfl rfl (cell_two_new' _ _ (by simp) _ _ _) (fun x hx => by simp at hx; rcases hx with rfl | rfl <;> rfl) (by unfold maxLen; omega) (by omega) (by simp; omega) ?_; intro v5 w5 hown5 hgr5 _ hat5; obtain ⟨gf, cf, rfl, hgf, hgf'⟩ := ownsRow_some hown5 (Nat.succ_pos _); have HB5 := hide (((unhide Hr2).rd.blk.alloc _).grown hgr5 (own_ne' (unhide Hr2).rd.own (Nat.lt_succ_self b))); have y2 := (unhide HB5).frozen 2; have y3 := (unhide HB5).cell 2; simp only [List.getElem?_toArray, List.getElem?_cons_zero, List.getElem?_cons_succ] at y3; have Hown5 := hide hown5; have Hgr5 := hide hgr5; have Hat5 := hide hat5; clear hown5 hgr5 hat5 c2 z2))
    go_ret
    refine ⟨true, p2, _, [(35, val ds)], rfl, ?_, by have := (unhide Hs1).le; have := unhide He2; have := unhide Hd0; simp; omega, (unhide Hr2).push _ 35 (val ds) (unhide Hown5) (unhide Hgr5) (unhide Hat5) (unhide Hct)⟩
    have := unhide Hf
    rw [unhide Hc] at this
    rw [unhide Heq, unhide Hl]
    exact this
  · have e1 : decide (0 < ds.length) = false := decide_eq_false hd0
    rw [e1]
    clear e1
    have Hf := hide (sel_no (c := t[p1]) (by rw [unhide Hc]; rfl) (unhide Hg2) hd0 [])
    clear hd0
    go_wp2_with fail
    go_ret
    refine ⟨false, p2, v, [], rfl, ?_, by have := (unhide Hs1).le; have := unhide He2; simp; omega, by rw [List.append_nil]; exact unhide Hr2⟩
    rw [unhide Heq, unhide Hl]
    exact unhide Hf

set_option maxRecDepth 100000 in
set_option maxHeartbeats 2000000 in
theorem operand_36 (b : Nat) (t : ByteArray) (p : Nat) (v : Value) (ps : List Pt) (w : World) (h : Rd w b t p v ps) (h1 : hd ((L t).drop p) = 36) :
    Calls Tryd.prog 112 #[.pointer (some ⟨b, 0, none⟩)] w fun e w' => ∃ ok p' v' ps', e = .returned (.bool ok) ∧ Fac ((L t).drop p) ok ((L t).drop p') ps' ∧ p + ps'.length ≤ p' ∧ RdR b t v w w' p' v' (ps ++ ps') := by
  obtain ⟨ii, hi, hz0, hz1, hz2⟩ := info_parts info_part
  have hsz := h.sz
  have H := hide h
  have H1 := hide h1
  clear h h1
  go_enter Tryd.func112, Tryd.ntmps112
  go_wp2_with fail
  refine (next_any b t p v ps _ (unhide H)).mono ?_
  rintro e w1 ⟨p1, x1, rfl, hr1, hs1⟩
  have Heq := hide (skp_same hs1 (by rw [unhide H1]; decide))
  rw [← unhide Heq, unhide H1]
  have hlt : p1 < t.size := by
    by_cases hh : p1 < t.size
    · exact hh
    · have h2 := unhide H1
      rw [unhide Heq, hd_end t p1 (by omega)] at h2
      cases h2
  have Hl := hide (L_drop t p1 hlt)
  have Hc : Hid ((t[p1].toNat : Int) = 36) := by show _ = _; rw [← hd_drop t p1 hlt, ← unhide Heq]; exact unhide H1
  have c1 := hr1.rd.c1
  have z1 := hr1.rd.z1
  have Hr1 : Hid (RdR b t v w (w1.setCell ⟨b, 1, none⟩ (.int .i64 ((p1 : Int) + 1))) (p1 + 1) v ps) := by
    have := hr1.move (a' := p1 + 1) (by omega) (by have := hr1.rd.cnt; omega)
    show RdR _ _ _ _ _ _ _ _
    simpa using this
  have Hs1 := hide hs1
  clear hr1 hs1
  go_wp2_with fail
  refine (digits_any b t (p1 + 1) v ps 1 _ (unhide Hr1).rd (by omega)).mono ?_
  rintro e w2 ⟨ds, p2, rfl, hg2, he2, hr2⟩
  have Hg2 := hide hg2
  have He2 := hide he2
  have Hr2 := hide ((unhide Hr1).trans hr2)
  clear hg2 he2 hr2
  by_cases hd0 : 0 < ds.length
  · have e1 : decide (0 < ds.length) = true := decide_eq_true hd0
    rw [e1]
    clear e1
    have Hf := hide (old_yes (c := t[p1]) (by rw [unhide Hc]; rfl) (unhide Hg2) hd0)
    have hcnt := (unhide Hr2).rd.cnt
    have hle := (unhide Hr2).rd.le
    have Hct : Hid (ps.length + 1 ≤ p2) := by have := (unhide H).cnt; have := (unhide Hs1).le; have := unhide He2; show _ ≤ _; omega
    obtain ⟨ao, cap, hv⟩ := ownsRow_form (unhide Hr2).rd.own
    subst hv
    have c2 := (unhide Hr2).rd.c2
    have z2 := (unhide Hr2).rd.z2
    have hbl := (unhide Hr2).rd.blk.lt
    have Hd0 := hide hd0
    clear hd0
    go_wp2_with (first
      | (at_builtin; refine wpList_append_own_at _ rfl (.tmp 46) (.tmp 50) 72 rfl (b + 1) 109 ii (.agg #[.int .u8 0, .int .i64 0]) 2 16 Tryd.underlying72 hi hz0 hz1 hz2 rfl (by decide) (.slice ao ps.length cap) ps.length _ rfl ((unhide Hr2).rd.own.alloc _) ⟨w2.heap.size, 0, none⟩ 1 1 [.int .u8 36, .int .i64 (val ds)] rfl rfl (cell_two_new' _ _ (by simp) _ _ _) (fun x hx => by simp at hx; rcases hx with rfl | rfl <;> rfl) (by unfold maxLen; omega) (by omega) (by simp; omega) ?_; intro v5 w5 hown5 hgr5 _ hat5; obtain ⟨gf, cf, rfl, hgf, hgf'⟩ := ownsRow_some hown5 (Nat.succ_pos _); have HB5 := hide (((unhide Hr2).rd.blk.alloc _).grown hgr5 (own_ne' (unhide Hr2).rd.own (Nat.lt_succ_self b))); have y2 := (unhide HB5).frozen 2; have y3 := (unhide HB5).cell 2; simp only [List.getElem?_toArray, List.getElem?_cons_zero, List.getElem?_cons_succ] at y3; have Hown5 := hide hown5; have Hgr5 := hide hgr5; have Hat5 := hide hat5; clear hown5 hgr5 hat5 c2 z2))
    go_ret
    refine ⟨true, p2, _, [(36, val ds)], rfl, ?_, by have := (unhide Hs1).le; have := unhide He2; have := unhide Hd0; simp; omega, (unhide Hr2).push _ 36 (val ds) (unhide Hown5) (unhide Hgr5) (unhide Hat5) (unhide Hct)⟩
    have := unhide Hf
    rw [unhide Hc] at this
    rw [unhide Heq, unhide Hl]
    exact this
  · have e1 : decide (0 < ds.length) = false := decide_eq_false hd0
    rw [e1]
    clear e1
    have Hf := hide (old_no (c := t[p1]) (by rw [unhide Hc]; rfl) (unhide Hg2) hd0 [])
    clear hd0
    go_wp2_with fail
    go_ret
    refine ⟨false, p2, v, [], rfl, ?_, by have := (unhide Hs1).le; have := unhide He2; simp; omega, by rw [List.append_nil]; exact unhide Hr2⟩
    rw [unhide Heq, unhide Hl]
    exact unhide Hf

set_option maxRecDepth 100000 in
set_option maxHeartbeats 2000000 in
theorem operand_60 (b : Nat) (t : ByteArray) (p : Nat) (v : Value) (ps : List Pt) (w : World) (h : Rd w b t p v ps) (h1 : hd ((L t).drop p) = 60) :
    Calls Tryd.prog 112 #[.pointer (some ⟨b, 0, none⟩)] w fun e w' => ∃ ok p' v' ps', e = .returned (.bool ok) ∧ Fac ((L t).drop p) ok ((L t).drop p') ps' ∧ p + ps'.length ≤ p' ∧ RdR b t v w w' p' v' (ps ++ ps') := by
  obtain ⟨ii, hi, hz0, hz1, hz2⟩ := info_parts info_part
  have hsz := h.sz
  have H := hide h
  have H1 := hide h1
  clear h h1
  go_enter Tryd.func112, Tryd.ntmps112
  go_wp2_with fail
  refine (next_any b t p v ps _ (unhide H)).mono ?_
  rintro e w1 ⟨p1, x1, rfl, hr1, hs1⟩
  have Heq := hide (skp_same hs1 (by rw [unhide H1]; decide))
  rw [← unhide Heq, unhide H1]
  have hlt : p1 < t.size := by
    by_cases hh : p1 < t.size
    · exact hh
    · have h2 := unhide H1
      rw [unhide Heq, hd_end t p1 (by omega)] at h2
      cases h2
  have Hl := hide (L_drop t p1 hlt)
  have Hc : Hid ((t[p1].toNat : Int) = 60) := by show _ = _; rw [← hd_drop t p1 hlt, ← unhide Heq]; exact unhide H1
  have c1 := hr1.rd.c1
  have z1 := hr1.rd.z1
  have Hr1 : Hid (RdR b t v w (w1.setCell ⟨b, 1, none⟩ (.int .i64 ((p1 : Int) + 1))) (p1 + 1) v ps) := by
    have := hr1.move (a' := p1 + 1) (by omega) (by have := hr1.rd.cnt; omega)
    show RdR _ _ _ _ _ _ _ _
    simpa using this
  have Hs1 := hide hs1
  clear hr1 hs1
  go_wp2_with fail
  refine (digits_any b t (p1 + 1) v ps 1 _ (unhide Hr1).rd (by omega)).mono ?_
  rintro e w2 ⟨ds, p2, rfl, hg2, he2, hr2⟩
  have Hg2 := hide hg2
  have He2 := hide he2
  have Hr2 := hide ((unhide Hr1).trans hr2)
  clear hg2 he2 hr2
  by_cases hd0 : 0 < ds.length
  · have e1 : decide (0 < ds.length) = true := decide_eq_true hd0
    rw [e1]
    clear e1
    have Hf := hide (old_yes (c := t[p1]) (by rw [unhide Hc]; rfl) (unhide Hg2) hd0)
    have hcnt := (unhide Hr2).rd.cnt
    have hle := (unhide Hr2).rd.le
    have Hct : Hid (ps.length + 1 ≤ p2) := by have := (unhide H).cnt; have := (unhide Hs1).le; have := unhide He2; show _ ≤ _; omega
    obtain ⟨ao, cap, hv⟩ := ownsRow_form (unhide Hr2).rd.own
    subst hv
    have c2 := (unhide Hr2).rd.c2
    have z2 := (unhide Hr2).rd.z2
    have hbl := (unhide Hr2).rd.blk.lt
    have Hd0 := hide hd0
    clear hd0
    go_wp2_with (first
      | (at_builtin; refine wpList_append_own_at _ rfl (.tmp 46) (.tmp 50) 72 rfl (b + 1) 109 ii (.agg #[.int .u8 0, .int .i64 0]) 2 16 Tryd.underlying72 hi hz0 hz1 hz2 rfl (by decide) (.slice ao ps.length cap) ps.length _ rfl ((unhide Hr2).rd.own.alloc _) ⟨w2.heap.size, 0, none⟩ 1 1 [.int .u8 60, .int .i64 (val ds)] rfl rfl (cell_two_new' _ _ (by simp) _ _ _) (fun x hx => by simp at hx; rcases hx with rfl | rfl <;> rfl) (by unfold maxLen; omega) (by omega) (by simp; omega) ?_; intro v5 w5 hown5 hgr5 _ hat5; obtain ⟨gf, cf, rfl, hgf, hgf'⟩ := ownsRow_some hown5 (Nat.succ_pos _); have HB5 := hide (((unhide Hr2).rd.blk.alloc _).grown hgr5 (own_ne' (unhide Hr2).rd.own (Nat.lt_succ_self b))); have y2 := (unhide HB5).frozen 2; have y3 := (unhide HB5).cell 2; simp only [List.getElem?_toArray, List.getElem?_cons_zero, List.getElem?_cons_succ] at y3; have Hown5 := hide hown5; have Hgr5 := hide hgr5; have Hat5 := hide hat5; clear hown5 hgr5 hat5 c2 z2))
    go_ret
    refine ⟨true, p2, _, [(60, val ds)], rfl, ?_, by have := (unhide Hs1).le; have := unhide He2; have := unhide Hd0; simp; omega, (unhide Hr2).push _ 60 (val ds) (unhide Hown5) (unhide Hgr5) (unhide Hat5) (unhide Hct)⟩
    have := unhide Hf
    rw [unhide Hc] at this
    rw [unhide Heq, unhide Hl]
    exact this
  · have e1 : decide (0 < ds.length) = false := decide_eq_false hd0
    rw [e1]
    clear e1
    have Hf := hide (old_no (c := t[p1]) (by rw [unhide Hc]; rfl) (unhide Hg2) hd0 [])
    clear hd0
    go_wp2_with fail
    go_ret
    refine ⟨false, p2, v, [], rfl, ?_, by have := (unhide Hs1).le; have := unhide He2; simp; omega, by rw [List.append_nil]; exact unhide Hr2⟩
    rw [unhide Heq, unhide Hl]
    exact unhide Hf

theorem operand_any (b : Nat) (t : ByteArray) (p : Nat) (v : Value) (ps : List Pt) (w : World) (h : Rd w b t p v ps) (h1 : ¬ hd ((L t).drop p) = 32) (h2 : ¬ hd ((L t).drop p) = 45) (h3 : ¬ hd ((L t).drop p) = 40) :
    Calls Tryd.prog 112 #[.pointer (some ⟨b, 0, none⟩)] w fun e w' => ∃ ok p' v' ps', e = .returned (.bool ok) ∧ Fac ((L t).drop p) ok ((L t).drop p') ps' ∧ p + ps'.length ≤ p' ∧ RdR b t v w w' p' v' (ps ++ ps') := by
  by_cases h64 : hd ((L t).drop p) = 64
  · exact operand_64 b t p v ps w h h64
  by_cases h33 : hd ((L t).drop p) = 33
  · exact operand_33 b t p v ps w h h33
  by_cases h35 : hd ((L t).drop p) = 35
  · exact operand_35 b t p v ps w h h35
  by_cases h36 : hd ((L t).drop p) = 36
  · exact operand_36 b t p v ps w h h36
  by_cases h60 : hd ((L t).drop p) = 60
  · exact operand_60 b t p v ps w h h60
  exact operand_num b t p v ps w h h1 h2 h3 (by simp [selB, h64, h33, h35]) (by simp [oldB, h36, h60])

end Go.Proofs.YtpcdkhmahbecaaaDoor
