/- Walks of the reader: operand. -/
import Derived.Test.YtpcdkhmahbecaaaDoorRdE
namespace Go.Proofs.YtpcdkhmahbecaaaDoor
open Go.RowKit Db

theorem info_part : (Tryd.prog.info? 109).map (fun i => (i.zero, i.size, i.bytes)) = some (some (.agg #[.int .u8 0, .int .i64 0]), 2, 16) := by kernel_rfl

theorem own_ne' {w : World} {B : Nat} {e : TypeId} {size : Nat} {v : Value} {n : Nat} {xs : List Value} (h : w.ownsRow B e size v n xs) {b : Nat} (hb : b < B) : some b ≠ v.ownBlock :=
  fun e => by have := (h.lt b e.symm).1; omega
/-- One part more. -/
theorem RdR.push {b : Nat} {t : ByteArray} {v v1 v2 : Value} {w W w5 : World} {a : Nat} {ps : List Pt} (h : RdR b t v w W a v1 ps) (o : Obj) (s n : Int)
    (hown : w5.ownsRow (b + 1) 109 2 v2 (ps.length + 1) (cellsP ps ++ [.int .u8 s, .int .i64 n])) (hgr : (W.alloc o).grownBy w5 v1.ownBlock)
    (hat : v2.ownBlock = v1.ownBlock ∨ v2.ownBlock = some (W.alloc o).heap.size) (hc : ps.length + 1 ≤ a) : RdR b t v w (w5.setCell ⟨b, 2, none⟩ v2) a v2 (ps ++ [(s, n)]) := by
  have hne : some b ≠ v1.ownBlock := fun e => by have := (h.rd.own.lt b e.symm).1; omega
  refine h.trans ⟨⟨?_, ?_, h.rd.le, by simpa using hc, h.rd.sz⟩, ?_, ?_⟩
  · have := ((h.rd.blk.alloc o).grown hgr hne).set 2 v2
    simpa using this
  · rw [cellsP_append]
    have := ownsRow_setCell_below hown (a := ⟨b, 2, none⟩) (by simp) v2
    simpa [cellsP] using this
  · exact (((Frm.refl _ _ _).alloc (Nat.le_refl _) o).grown hgr (by simp) (fun k hk => .inr (.inr hk.symm))).setCell (.inr (.inl rfl)) _
  · rcases hat with e | e
    · exact .inl e
    · exact .inr (fun k hk => by rw [e] at hk; simp at hk; omega)

/-- The digits of an operand that has none, or some. -/
theorem num_yes {l ds l' : List UInt8} (h : Dg 18 l ds l') (h0 : 0 < ds.length) : Fac l true l' [(48, val ds)] := by
  rw [h.eq]
  exact fac_opnd (.inl ⟨h0, h.le, h.dig, rfl⟩) (fun d k i => plc_number ds h.dig h0 h.le l' h.stop d k i)
theorem num_no {l ds l' : List UInt8} (h : Dg 18 l ds l') (h0 : ¬ 0 < ds.length) (h1 : ¬ hd l = 32) (h2 : ¬ hd l = 45) (h3 : ¬ hd l = 40) (h5 : selB (hd l) = false) (h6 : oldB (hd l) = false) (ps : List Pt) : Fac l false l' ps := by
  obtain ⟨h4, rfl⟩ := dg_none h h0 (by omega)
  exact ⟨[], rfl, (fun h0 => by cases h0), fun _ d k i _ => by rw [plc_fail6 l h1 h2 h3 h4 h5 h6]; simp⟩
theorem sel_yes {c : UInt8} (hc : selB c.toNat = true) {r ds l' : List UInt8} (h : Dg 2 r ds l') (h0 : 0 < ds.length) : Fac (c :: r) true l' [((c.toNat : Int), val ds)] := by
  rw [h.eq]
  refine fac_opnd (e := c :: ds) (.inr ⟨c, ds, rfl, h0, h.dig, .inl ⟨hc, h.le⟩, rfl⟩) (fun d k i => ?_)
  rw [List.cons_append, plc_sel1 hc, plc_sel ds h.dig h0 h.le l' h.stop]
  congr 1
  simp; omega
theorem sel_no {c : UInt8} (hc : selB c.toNat = true) {r ds l' : List UInt8} (h : Dg 2 r ds l') (h0 : ¬ 0 < ds.length) (ps : List Pt) : Fac (c :: r) false l' ps := by
  obtain ⟨h4, rfl⟩ := dg_none h h0 (by omega)
  exact ⟨[c], rfl, (fun h0 => by cases h0), fun _ d k i _ => by rw [plc_sel1 hc, plc_fail8 r h4]; simp⟩
theorem old_yes {c : UInt8} (hc : oldB c.toNat = true) {r ds l' : List UInt8} (h : Dg 1 r ds l') (h0 : 0 < ds.length) : Fac (c :: r) true l' [((c.toNat : Int), val ds)] := by
  have hl : ds.length = 1 := by have := h.le; omega
  obtain ⟨x, rfl⟩ := List.length_eq_one_iff.1 hl
  rw [h.eq]
  refine fac_opnd (e := c :: [x]) (.inr ⟨c, [x], rfl, h0, h.dig, .inr ⟨hc, hl⟩, rfl⟩) (fun d k i => ?_)
  rw [List.cons_append, plc_old1 hc, List.cons_append, List.nil_append, plc_old x (h.dig x (by simp))]
  congr 1
  simp; omega
theorem old_no {c : UInt8} (hc : oldB c.toNat = true) {r ds l' : List UInt8} (h : Dg 1 r ds l') (h0 : ¬ 0 < ds.length) (ps : List Pt) : Fac (c :: r) false l' ps := by
  obtain ⟨h4, rfl⟩ := dg_none h h0 (by omega)
  exact ⟨[c], rfl, (fun h0 => by cases h0), fun _ d k i _ => by rw [plc_old1 hc, plc_fail9 r h4]; simp⟩

set_option maxRecDepth 100000 in
set_option maxHeartbeats 2000000 in
theorem operand_num (b : Nat) (t : ByteArray) (p : Nat) (v : Value) (ps : List Pt) (w : World) (h : Rd w b t p v ps) (h1 : ¬ hd ((L t).drop p) = 32) (h2 : ¬ hd ((L t).drop p) = 45) (h3 : ¬ hd ((L t).drop p) = 40) (h5 : selB (hd ((L t).drop p)) = false) (h6 : oldB (hd ((L t).drop p)) = false) :
    Calls Tryd.prog 112 #[.pointer (some ⟨b, 0, none⟩)] w fun e w' => ∃ ok p' v' ps', e = .returned (.bool ok) ∧ Fac ((L t).drop p) ok ((L t).drop p') ps' ∧ p + ps'.length ≤ p' ∧ RdR b t v w w' p' v' (ps ++ ps') := by
  obtain ⟨ii, hi, hz0, hz1, hz2⟩ := info_parts info_part
  have hsz := h.sz
  have H := hide h
  have H1 := hide h1
  have H2 := hide h2
  have H3 := hide h3
  have H5 := hide h5
  have H6 := hide h6
  clear h h1 h2 h3 h5 h6
  go_enter Tryd.func112, Tryd.ntmps112
  go_wp2_with fail
  refine (next_any b t p v ps _ (unhide H)).mono ?_
  rintro e w1 ⟨p1, x1, rfl, hr1, hs1⟩
  have Heq := hide (skp_same hs1 (unhide H1))
  rw [← unhide Heq]
  obtain ⟨c, hc⟩ : ∃ c, hd ((L t).drop p) = c := ⟨_, rfl⟩
  have h5 := unhide H5
  have h6 := unhide H6
  rw [hc] at h5 h6 ⊢
  have n64 : (c == 64) = false := by simp [selB] at h5 ⊢; omega
  have n33 : (c == 33) = false := by simp [selB] at h5 ⊢; omega
  have n35 : (c == 35) = false := by simp [selB] at h5 ⊢; omega
  have n36 : (c == 36) = false := by simp [oldB] at h6 ⊢; omega
  have n60 : (c == 60) = false := by simp [oldB] at h6 ⊢; omega
  have Hr1 := hide hr1
  have Hs1 := hide hs1
  clear h5 h6 hc hr1 hs1
  go_wp2_with fail
  refine (digits_any b t p1 v ps 18 _ (unhide Hr1).rd (by omega)).mono ?_
  rintro e w2 ⟨ds, p2, rfl, hg2, he2, hr2⟩
  rw [← unhide Heq] at hg2
  have Hg2 := hide hg2
  have He2 := hide he2
  have Hr2 := hide ((unhide Hr1).trans hr2)
  clear hg2 he2 hr2
  by_cases hd0 : 0 < ds.length
  · have e1 : decide (0 < ds.length) = true := decide_eq_true hd0
    rw [e1]
    clear e1
    have Hf := hide (num_yes (unhide Hg2) hd0)
    have hcnt := (unhide Hr2).rd.cnt
    have hle := (unhide Hr2).rd.le
    have Hc : Hid (ps.length + 1 ≤ p2) := by have := (unhide H).cnt; have := (unhide Hs1).le; have := unhide He2; show _ ≤ _; omega
    obtain ⟨ao, cap, hv⟩ := ownsRow_form (unhide Hr2).rd.own
    subst hv
    have c2 := (unhide Hr2).rd.c2
    have z2 := (unhide Hr2).rd.z2
    have hbl := (unhide Hr2).rd.blk.lt
    have Hd0 := hide hd0
    clear hd0
    go_wp2_with (first
      | (at_builtin; refine wpList_append_own_at _ rfl (.tmp 46) (.tmp 50) 72 rfl (b + 1) 109 ii (.agg #[.int .u8 0, .int .i64 0]) 2 16 Tryd.underlying72 hi hz0 hz1 hz2 rfl (by decide) (.slice ao ps.length cap) ps.length _ rfl ((unhide Hr2).rd.own.alloc _) ⟨w2.heap.size, 0, none⟩ 1 1 [.int .u8 48, .int .i64 (val ds)] rfl rfl (cell_two_new' _ _ (by simp) _ _ _) (fun x hx => by simp at hx; rcases hx with rfl | rfl <;> rfl) (by unfold maxLen; omega) (by omega) (by simp; omega) ?_; intro v5 w5 hown5 hgr5 _ hat5; obtain ⟨gf, cf, rfl, hgf, hgf'⟩ := ownsRow_some hown5 (Nat.succ_pos _); have HB5 := hide (((unhide Hr2).rd.blk.alloc _).grown hgr5 (own_ne' (unhide Hr2).rd.own (Nat.lt_succ_self b))); have y2 := (unhide HB5).frozen 2; have y3 := (unhide HB5).cell 2; simp only [List.getElem?_toArray, List.getElem?_cons_zero, List.getElem?_cons_succ] at y3; have Hown5 := hide hown5; have Hgr5 := hide hgr5; have Hat5 := hide hat5; clear hown5 hgr5 hat5 c2 z2))
    go_ret
    exact ⟨true, p2, _, _, rfl, unhide Hf, by have := (unhide Hs1).le; have := unhide He2; have := unhide Hd0; simp; omega, (unhide Hr2).push _ 48 (val ds) (unhide Hown5) (unhide Hgr5) (unhide Hat5) (unhide Hc)⟩
  · have e1 : decide (0 < ds.length) = false := decide_eq_false hd0
    rw [e1]
    clear e1
    have Hf := hide (num_no (unhide Hg2) hd0 (unhide H1) (unhide H2) (unhide H3) (unhide H5) (unhide H6) [])
    clear hd0
    go_wp2_with fail
    go_ret
    exact ⟨false, p2, v, [], rfl, unhide Hf, by have := (unhide Hs1).le; have := unhide He2; simp; omega, by rw [List.append_nil]; exact unhide Hr2⟩

end Go.Proofs.YtpcdkhmahbecaaaDoor
