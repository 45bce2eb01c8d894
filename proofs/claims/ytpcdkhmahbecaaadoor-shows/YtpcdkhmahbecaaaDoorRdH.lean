/- Walks of the reader: factor. -/
import Derived.Test.YtpcdkhmahbecaaaDoorRdG
namespace Go.Proofs.YtpcdkhmahbecaaaDoor
open Go.RowKit Db

/-- What factor, term and expression promise of texts with fewer than n bytes left. -/
def FacC (n : Nat) : Prop := ∀ (b : Nat) (t : ByteArray) (p : Nat) (v : Value) (ps : List Pt) (w : World), Rd w b t p v ps → t.size - p < n →
    Calls Tryd.prog 106 #[.pointer (some ⟨b, 0, none⟩)] w fun e w' => ∃ ok p' v' ps', e = .returned (.bool ok) ∧ Fac ((L t).drop p) ok ((L t).drop p') ps' ∧ p + ps'.length ≤ p' ∧ RdR b t v w w' p' v' (ps ++ ps')
def TrmC (n : Nat) : Prop := ∀ (b : Nat) (t : ByteArray) (p : Nat) (v : Value) (ps : List Pt) (w : World), Rd w b t p v ps → t.size - p < n →
    Calls Tryd.prog 97 #[.pointer (some ⟨b, 0, none⟩)] w fun e w' => ∃ ok p' v' ps', e = .returned (.bool ok) ∧ Trm ((L t).drop p) ok ((L t).drop p') ps' ∧ p + ps'.length ≤ p' ∧ RdR b t v w w' p' v' (ps ++ ps')
def ExpC (n : Nat) : Prop := ∀ (b : Nat) (t : ByteArray) (p : Nat) (v : Value) (ps : List Pt) (w : World), Rd w b t p v ps → t.size - p < n →
    Calls Tryd.prog 78 #[.pointer (some ⟨b, 0, none⟩)] w fun e w' => ∃ ok p' v' ps', e = .returned (.bool ok) ∧ Exp ((L t).drop p) ok ((L t).drop p') ps' ∧ p + ps'.length ≤ p' ∧ RdR b t v w w' p' v' (ps ++ ps')

theorem cons_lt {t : ByteArray} {p : Nat} {y : UInt8} (h : (L t).drop p = y :: (L t).drop (p + 1)) : p < t.size := by
  by_cases hp : p < t.size
  · exact hp
  · rw [L_drop_end t p (by omega)] at h; cases h

set_option maxRecDepth 100000 in
set_option maxHeartbeats 2000000 in
theorem factor_step (n : Nat) (ihF : FacC n) (ihE : ExpC n) : FacC (n + 1) := by
  intro b t p v ps w h hlen
  obtain ⟨ii, hi, hz0, hz1, hz2⟩ := info_parts info_part
  have hsz := h.sz
  have hpz := h.le
  have H := hide h
  have HF := hide ihF
  have HE := hide ihE
  clear h ihF ihE
  go_enter Tryd.func106, Tryd.ntmps106
  go_wp2_with fail
  refine (accept_any b t p v ps 45 _ (unhide H) (by omega)).mono ?_
  rintro e w1 ⟨p1, x1, hs1, ⟨hn1, rfl, hr1⟩ | ⟨y1, hy1, hl1, rfl, hr1⟩⟩
  · have Hs1 := hide hs1
    have Hn1 := hide hn1
    have Hr1 := hide hr1
    clear hs1 hn1 hr1
    go_wp2_with fail
    refine (accept_any b t p1 v ps 40 _ (unhide Hr1).rd (by omega)).mono ?_
    rintro e w2 ⟨p2, x2, hs2, ⟨hn2, rfl, hr2⟩ | ⟨y2, hy2, hl2, rfl, hr2⟩⟩
    · have Heq := hide (skp_same hs2 (unhide Hs1).nb)
      have Hn2 := hide hn2
      have Hs2 := hide hs2
      have Hr2 := hide ((unhide Hr1).trans hr2)
      clear hs2 hn2 hr2
      go_wp2_with fail
      refine (operand_any b t p2 v ps _ (unhide Hr2).rd (unhide Hs2).nb (by rw [← unhide Heq]; exact unhide Hn1) (unhide Hn2)).mono ?_
      rintro e w3 ⟨ok, p3, v3, ps3, rfl, hf, hle, hr3⟩
      have Hf := hide hf
      have Hr3 := hide ((unhide Hr2).trans hr3)
      clear hf hr3
      go_wp2_with fail
      go_ret
      refine ⟨ok, p3, v3, ps3, rfl, ?_, by have := (unhide Hs1).le; have := (unhide Hs2).le; omega, unhide Hr3⟩
      rw [(unhide Hs1).eq, unhide Heq]
      exact fac_blanks (unhide Hs1).bl (unhide Hf)
    · have Heq := hide (skp_same hs2 (unhide Hs1).nb)
      have hlt := cons_lt hl2
      have Hs2 := hide hs2
      have Hy2 := hide hy2
      have Hl2 := hide hl2
      have Hr2 := hide ((unhide Hr1).trans hr2)
      have hp2 : p ≤ p2 := Nat.le_trans (unhide Hs1).le (unhide Hs2).le
      clear hs2 hr2 hy2 hl2
      go_wp2_with fail
      refine (unhide HE b t (p2 + 1) v ps _ (unhide Hr2).rd (by omega)).mono ?_
      rintro e w3 ⟨ok, p3, v3, ps3, rfl, hf, hle, hr3⟩
      have Hf := hide hf
      have Hr3 := hide ((unhide Hr2).trans hr3)
      clear hf hr3
      cases ok with
      | false =>
        go_wp2_with fail
        go_ret
        refine ⟨false, p3, v3, ps3, rfl, ?_, by omega, unhide Hr3⟩
        rw [(unhide Hs1).eq, unhide Heq, unhide Hl2]
        exact fac_blanks (unhide Hs1).bl (fac_par_no (unhide Hy2) (unhide Hf))
      | true =>
        go_wp2_with fail
        refine (accept_any b t p3 v3 (ps ++ ps3) 41 _ (unhide Hr3).rd (by omega)).mono ?_
        rintro e w4 ⟨p4, x4, hs4, ⟨hn4, rfl, hr4⟩ | ⟨y4, hy4, hl4, rfl, hr4⟩⟩
        · have Hs4 := hide hs4
          have Hn4 := hide hn4
          have Hr4 := hide ((unhide Hr3).trans hr4)
          clear hs4 hn4 hr4
          go_wp2_with fail
          go_ret
          refine ⟨false, p4, v3, ps3, rfl, ?_, by have := (unhide Hs4).le; omega, unhide Hr4⟩
          obtain ⟨z, hz1, hz2, hz3⟩ := unhide Hf
          have he := skp_same (unhide Hs4) (hz2 rfl).2.2.1
          rw [(unhide Hs1).eq, unhide Heq, unhide Hl2]
          refine fac_blanks (unhide Hs1).bl (fac_par_open (unhide Hy2) (ps := ps3) ?_ (unhide Hn4))
          rw [← he]; exact unhide Hf
        · have Hs4 := hide hs4
          have Hy4 := hide hy4
          have Hl4 := hide hl4
          have Hr4 := hide ((unhide Hr3).trans hr4)
          clear hs4 hy4 hl4 hr4
          go_wp2_with fail
          go_ret
          refine ⟨true, p4 + 1, v3, ps3, rfl, ?_, by have := (unhide Hs4).le; omega, unhide Hr4⟩
          obtain ⟨z, hz1, hz2, hz3⟩ := unhide Hf
          have he := skp_same (unhide Hs4) (hz2 rfl).2.2.1
          rw [(unhide Hs1).eq, unhide Heq, unhide Hl2]
          refine fac_blanks (unhide Hs1).bl (fac_par_yes (unhide Hy2) (unhide Hy4) ?_)
          rw [← unhide Hl4, ← he]; exact unhide Hf
  · have hlt := cons_lt hl1
    have Hs1 := hide hs1
    have Hy1 := hide hy1
    have Hl1 := hide hl1
    have Hr1 := hide hr1
    have hp1 : p ≤ p1 := (unhide Hs1).le
    clear hs1 hy1 hl1 hr1
    go_wp2_with fail
    refine (unhide HF b t (p1 + 1) v ps _ (unhide Hr1).rd (by omega)).mono ?_
    rintro e w3 ⟨ok, p3, v3, ps3, rfl, hf, hle, hr3⟩
    have Hf : Hid (Fac ((L t).drop p) ok ((L t).drop p3) (ps3 ++ [(126, 0)])) := by
      show Fac _ _ _ _
      rw [(unhide Hs1).eq, unhide Hl1]
      exact fac_blanks (unhide Hs1).bl (fac_neg (unhide Hy1) hf)
    have Hr3 := hide ((unhide Hr1).trans hr3)
    clear hf hr3
    cases ok with
    | false =>
      go_wp2_with fail
      go_ret
      exact ⟨false, p3, v3, ps3, rfl, trm_no (unhide Hf), by omega, unhide Hr3⟩
    | true =>
      have hcnt := (unhide Hr3).rd.cnt
      have hle3 := (unhide Hr3).rd.le
      have hct : (ps ++ ps3).length + 1 ≤ p3 := by have := (unhide H).cnt; simp; omega
      obtain ⟨qs, hqs⟩ : ∃ qs, ps ++ ps3 = qs := ⟨_, rfl⟩
      rw [hqs] at Hr3 hcnt hct
      have Hqs := hide hqs
      obtain ⟨ao, cap, hv⟩ := ownsRow_form (unhide Hr3).rd.own
      subst hv
      have c2 := (unhide Hr3).rd.c2
      have z2 := (unhide Hr3).rd.z2
      have hbl := (unhide Hr3).rd.blk.lt
      clear hqs
      go_wp2_with (first
        | (at_builtin; refine wpList_append_own_at _ rfl (.tmp 12) (.tmp 14) 72 rfl (b + 1) 109 ii (.agg #[.int .u8 0, .int .i64 0]) 2 16 Tryd.underlying72 hi hz0 hz1 hz2 rfl (by decide) (.slice ao qs.length cap) qs.length _ rfl ((unhide Hr3).rd.own.alloc _) ⟨w3.heap.size, 0, none⟩ 1 1 [.int .u8 126, .int .i64 0] rfl rfl (cell_two_new' _ _ (by simp) _ _ _) (fun x hx => by simp at hx; rcases hx with rfl | rfl <;> rfl) (by unfold maxLen; omega) (by omega) (by simp; omega) ?_; intro v5 w5 hown5 hgr5 _ hat5; obtain ⟨gf, cf, rfl, hgf, hgf'⟩ := ownsRow_some hown5 (Nat.succ_pos _); have HB5 := hide (((unhide Hr3).rd.blk.alloc _).grown hgr5 (own_ne' (unhide Hr3).rd.own (Nat.lt_succ_self b))); have y2 := (unhide HB5).frozen 2; have y3 := (unhide HB5).cell 2; simp only [List.getElem?_toArray, List.getElem?_cons_zero, List.getElem?_cons_succ] at y3; have Hown5 := hide hown5; have Hgr5 := hide hgr5; have Hat5 := hide hat5; clear hown5 hgr5 hat5 c2 z2))
      go_ret
      refine ⟨true, p3, .slice (some ⟨gf, 0, none⟩) (qs.length + 1) cf, ps3 ++ [(126, 0)], rfl, unhide Hf, by simp; omega, ?_⟩
      have := (unhide Hr3).push _ 126 0 (unhide Hown5) (unhide Hgr5) (unhide Hat5) hct
      rw [← List.append_assoc, unhide Hqs]
      exact this

end Go.Proofs.YtpcdkhmahbecaaaDoor
