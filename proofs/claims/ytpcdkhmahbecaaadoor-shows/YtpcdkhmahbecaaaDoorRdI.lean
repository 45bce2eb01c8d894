/- Walks of the reader: term, expression (laid by genI.py). -/
import Derived.Test.YtpcdkhmahbecaaaDoorRdH
namespace Go.Proofs.YtpcdkhmahbecaaaDoor
open Go.RowKit Db

theorem got_H {S : List UInt8 → List Pt → Prop} {H : List UInt8 → Prop} {l l' : List UInt8} {ps : List Pt} (h : Got S H l true l' ps) : H l' := by
  obtain ⟨x, _, h1, _⟩ := h
  exact (h1 rfl).2.2


set_option maxRecDepth 100000 in
set_option maxHeartbeats 4000000 in
theorem term_step (n : Nat) (ih : FacC n) : TrmC n := by
  intro b t p v ps w h hlen
  obtain ⟨ii, hi, hz0, hz1, hz2⟩ := info_parts info_part
  have hsz := h.sz
  have hpz := h.le
  have H := hide h
  have HI := hide ih
  clear h ih
  go_enter Tryd.func97, Tryd.ntmps97
  go_wp2_with fail
  refine (unhide HI b t p v ps _ (unhide H) hlen).mono ?_
  rintro e w1 ⟨ok, p1, v1, ps1, rfl, hf, hle, hr1⟩
  have Hf := hide hf
  have Hr1 := hide hr1
  clear hf hr1
  cases ok with
  | false =>
    go_wp2_with fail
    go_ret
    exact ⟨false, p1, v1, ps1, rfl, trm_no (unhide Hf), hle, unhide Hr1⟩
  | true =>
    go_wp2_with fail
    refine (next_any b t p1 v1 (ps ++ ps1) _ (unhide Hr1).rd).mono ?_
    rintro e w2 ⟨p2, x2, rfl, hr2, hs2⟩
    have Hg0 : Hid (Got TrmS (fun _ => True) ((L t).drop p) true ((L t).drop p2) ps1) := trm_fac (by rw [← hs2.eq]; exact unhide Hf) hs2.bl
    have Hn0 := hide hs2.nb
    have hl2 := hs2.le
    have hp2 := hr2.rd.le
    have Hr2 := hide ((unhide Hr1).trans hr2)
    clear hr2 hs2
    go_wp2_with fail
    go_loopg [3] (t.size - p2) (fun m sg wr => ∃ k v2 qs, p + qs.length ≤ k ∧ k ≤ t.size ∧ m = t.size - k ∧ sg = .int .u8 (hd ((L t).drop k)) ∧ Hid (Got TrmS (fun _ => True) ((L t).drop p) true ((L t).drop k) qs) ∧ Hid (¬ hd ((L t).drop k) = 32) ∧ Hid (RdR b t v w wr k v2 (ps ++ qs)))
    case atStart => exact ⟨p2, v1, ps1, by omega, hp2, rfl, rfl, unhide Hg0, unhide Hn0, unhide Hr2⟩
    case round =>
      obtain ⟨k, v2, qs, hqk, hk, rfl, rfl, Hg, Hn, Hr⟩ := hrel
      obtain ⟨c, hc⟩ : ∃ c, hd ((L t).drop k) = c := ⟨_, rfl⟩
      rw [hc]
      have Hc := hide hc
      clear hc
      by_cases h1 : c = 42
      · subst h1
        have hlt : k < t.size := by
          by_cases hh : k < t.size
          · exact hh
          · have h2 := unhide Hc
            rw [hd_end t k (by omega)] at h2
            cases h2
        have Hl := hide (L_drop t k hlt)
        have Ho : Hid ((t[k].toNat : Int) = 42 ∨ (t[k].toNat : Int) = 47) := by
          show _ ∨ _
          rw [← hd_drop t k hlt, unhide Hc]
          decide
        have Hv : Hid ((t[k].toNat : Int) = 42) := by show _ = _; rw [← hd_drop t k hlt]; exact unhide Hc
        have c1 := (unhide Hr).rd.c1
        have z1 := (unhide Hr).rd.z1
        have Hrm : Hid (RdR b t v w (wr.setCell ⟨b, 1, none⟩ (.int .i64 ((k : Int) + 1))) (k + 1) v2 (ps ++ qs)) := by
          have := (unhide Hr).move (a' := k + 1) (by omega) (by have := (unhide Hr).rd.cnt; omega)
          show RdR _ _ _ _ _ _ _ _
          simpa using this
        go_wp2_with fail
        refine (unhide HI b t (k + 1) v2 (ps ++ qs) _ (unhide Hrm).rd (by omega)).mono ?_
        rintro e w3 ⟨ok, p3, v3, ps3, rfl, hf3, hle3, hr3⟩
        have Hf3 := hide hf3
        have Hr3 : Hid (RdR b t v w w3 p3 v3 (ps ++ (qs ++ ps3))) := by
          show RdR _ _ _ _ _ _ _ _
          rw [← List.append_assoc]
          exact (unhide Hrm).trans hr3
        clear hf3 hr3 c1 z1
        cases ok with
        | false =>
          go_wp2_with fail
          go_ret
          refine ⟨false, p3, v3, qs ++ ps3, rfl, ?_, by simp; omega, unhide Hr3⟩
          exact op_no (o := t[k]) (by rw [unhide Hv]; rfl) (by rw [← unhide Hl]; exact unhide Hg) (unhide Hf3)
        | true =>
          have hcnt := (unhide Hr3).rd.cnt
          have hle4 := (unhide Hr3).rd.le
          have hct : (ps ++ (qs ++ ps3)).length + 1 ≤ p3 := by have := (unhide H).cnt; simp; omega
          obtain ⟨rs, hrs⟩ : ∃ rs, ps ++ (qs ++ ps3) = rs := ⟨_, rfl⟩
          rw [hrs] at Hr3 hcnt hct
          have Hrs := hide hrs
          obtain ⟨ao, cap, hv⟩ := ownsRow_form (unhide Hr3).rd.own
          subst hv
          have c2 := (unhide Hr3).rd.c2
          have z2 := (unhide Hr3).rd.z2
          have hbl := (unhide Hr3).rd.blk.lt
          clear hrs
          go_wp2_with (first
            | (at_builtin; refine wpList_append_own_at _ rfl (.tmp 29) (.tmp 32) 72 rfl (b + 1) 109 ii (.agg #[.int .u8 0, .int .i64 0]) 2 16 Tryd.underlying72 hi hz0 hz1 hz2 rfl (by decide) (.slice ao rs.length cap) rs.length _ rfl ((unhide Hr3).rd.own.alloc _) ⟨w3.heap.size, 0, none⟩ 1 1 [.int .u8 42, .int .i64 0] rfl rfl (cell_two_new' _ _ (by simp) _ _ _) (fun x hx => by simp at hx; rcases hx with rfl | rfl <;> rfl) (by unfold maxLen; omega) (by omega) (by simp; omega) ?_; intro v5 w5 hown5 hgr5 _ hat5; obtain ⟨gf, cf, rfl, hgf, hgf'⟩ := ownsRow_some hown5 (Nat.succ_pos _); have HB5 := hide (((unhide Hr3).rd.blk.alloc _).grown hgr5 (own_ne' (unhide Hr3).rd.own (Nat.lt_succ_self b))); have y2 := (unhide HB5).frozen 2; have y3 := (unhide HB5).cell 2; simp only [List.getElem?_toArray, List.getElem?_cons_zero, List.getElem?_cons_succ] at y3; have Hr5 := hide ((unhide Hr3).push _ 42 0 hown5 hgr5 hat5 hct); clear hown5 hgr5 hat5 c2 z2))
          refine (next_any b t p3 _ _ _ (unhide Hr5).rd).mono ?_
          rintro e w6 ⟨p4, x4, rfl, hr6, hs4⟩
          have Hg4 : Hid (Got TrmS (fun _ => True) ((L t).drop p) true ((L t).drop p4) (qs ++ ps3 ++ [((t[k].toNat : Int), 0)])) := trm_mul (unhide Ho) (by rw [← unhide Hl]; exact unhide Hg) (by rw [← hs4.eq]; exact unhide Hf3) hs4.bl
          have Hn4 := hide hs4.nb
          have hl4 := hs4.le
          have hp4 := hr6.rd.le
          have Hr6 := hide ((unhide Hr5).trans hr6)
          clear hr6 hs4
          go_wp2_with fail
          go_roundg (t.size - p4)
          case measure => omega
          case rel =>
            refine ⟨p4, .slice (some ⟨gf, 0, none⟩) (rs.length + 1) cf, qs ++ ps3 ++ [(42, 0)], by simp; omega, hp4, rfl, rfl, ?_, unhide Hn4, ?_⟩
            · have := unhide Hg4
              rw [unhide Hv] at this
              exact this
            · have e2 : ps ++ (qs ++ ps3 ++ [(42, 0)]) = rs ++ [(42, 0)] := by rw [← unhide Hrs]; simp
              show RdR _ _ _ _ _ _ _ _
              rw [e2]
              exact unhide Hr6
      by_cases h2 : c = 47
      · subst h2
        have hlt : k < t.size := by
          by_cases hh : k < t.size
          · exact hh
          · have h2 := unhide Hc
            rw [hd_end t k (by omega)] at h2
            cases h2
        have Hl := hide (L_drop t k hlt)
        have Ho : Hid ((t[k].toNat : Int) = 42 ∨ (t[k].toNat : Int) = 47) := by
          show _ ∨ _
          rw [← hd_drop t k hlt, unhide Hc]
          decide
        have Hv : Hid ((t[k].toNat : Int) = 47) := by show _ = _; rw [← hd_drop t k hlt]; exact unhide Hc
        have c1 := (unhide Hr).rd.c1
        have z1 := (unhide Hr).rd.z1
        have Hrm : Hid (RdR b t v w (wr.setCell ⟨b, 1, none⟩ (.int .i64 ((k : Int) + 1))) (k + 1) v2 (ps ++ qs)) := by
          have := (unhide Hr).move (a' := k + 1) (by omega) (by have := (unhide Hr).rd.cnt; omega)
          show RdR _ _ _ _ _ _ _ _
          simpa using this
        go_wp2_with fail
        refine (unhide HI b t (k + 1) v2 (ps ++ qs) _ (unhide Hrm).rd (by omega)).mono ?_
        rintro e w3 ⟨ok, p3, v3, ps3, rfl, hf3, hle3, hr3⟩
        have Hf3 := hide hf3
        have Hr3 : Hid (RdR b t v w w3 p3 v3 (ps ++ (qs ++ ps3))) := by
          show RdR _ _ _ _ _ _ _ _
          rw [← List.append_assoc]
          exact (unhide Hrm).trans hr3
        clear hf3 hr3 c1 z1
        cases ok with
        | false =>
          go_wp2_with fail
          go_ret
          refine ⟨false, p3, v3, qs ++ ps3, rfl, ?_, by simp; omega, unhide Hr3⟩
          exact op_no (o := t[k]) (by rw [unhide Hv]; rfl) (by rw [← unhide Hl]; exact unhide Hg) (unhide Hf3)
        | true =>
          have hcnt := (unhide Hr3).rd.cnt
          have hle4 := (unhide Hr3).rd.le
          have hct : (ps ++ (qs ++ ps3)).length + 1 ≤ p3 := by have := (unhide H).cnt; simp; omega
          obtain ⟨rs, hrs⟩ : ∃ rs, ps ++ (qs ++ ps3) = rs := ⟨_, rfl⟩
          rw [hrs] at Hr3 hcnt hct
          have Hrs := hide hrs
          obtain ⟨ao, cap, hv⟩ := ownsRow_form (unhide Hr3).rd.own
          subst hv
          have c2 := (unhide Hr3).rd.c2
          have z2 := (unhide Hr3).rd.z2
          have hbl := (unhide Hr3).rd.blk.lt
          clear hrs
          go_wp2_with (first
            | (at_builtin; refine wpList_append_own_at _ rfl (.tmp 29) (.tmp 32) 72 rfl (b + 1) 109 ii (.agg #[.int .u8 0, .int .i64 0]) 2 16 Tryd.underlying72 hi hz0 hz1 hz2 rfl (by decide) (.slice ao rs.length cap) rs.length _ rfl ((unhide Hr3).rd.own.alloc _) ⟨w3.heap.size, 0, none⟩ 1 1 [.int .u8 47, .int .i64 0] rfl rfl (cell_two_new' _ _ (by simp) _ _ _) (fun x hx => by simp at hx; rcases hx with rfl | rfl <;> rfl) (by unfold maxLen; omega) (by omega) (by simp; omega) ?_; intro v5 w5 hown5 hgr5 _ hat5; obtain ⟨gf, cf, rfl, hgf, hgf'⟩ := ownsRow_some hown5 (Nat.succ_pos _); have HB5 := hide (((unhide Hr3).rd.blk.alloc _).grown hgr5 (own_ne' (unhide Hr3).rd.own (Nat.lt_succ_self b))); have y2 := (unhide HB5).frozen 2; have y3 := (unhide HB5).cell 2; simp only [List.getElem?_toArray, List.getElem?_cons_zero, List.getElem?_cons_succ] at y3; have Hr5 := hide ((unhide Hr3).push _ 47 0 hown5 hgr5 hat5 hct); clear hown5 hgr5 hat5 c2 z2))
          refine (next_any b t p3 _ _ _ (unhide Hr5).rd).mono ?_
          rintro e w6 ⟨p4, x4, rfl, hr6, hs4⟩
          have Hg4 : Hid (Got TrmS (fun _ => True) ((L t).drop p) true ((L t).drop p4) (qs ++ ps3 ++ [((t[k].toNat : Int), 0)])) := trm_mul (unhide Ho) (by rw [← unhide Hl]; exact unhide Hg) (by rw [← hs4.eq]; exact unhide Hf3) hs4.bl
          have Hn4 := hide hs4.nb
          have hl4 := hs4.le
          have hp4 := hr6.rd.le
          have Hr6 := hide ((unhide Hr5).trans hr6)
          clear hr6 hs4
          go_wp2_with fail
          go_roundg (t.size - p4)
          case measure => omega
          case rel =>
            refine ⟨p4, .slice (some ⟨gf, 0, none⟩) (rs.length + 1) cf, qs ++ ps3 ++ [(47, 0)], by simp; omega, hp4, rfl, rfl, ?_, unhide Hn4, ?_⟩
            · have := unhide Hg4
              rw [unhide Hv] at this
              exact this
            · have e2 : ps ++ (qs ++ ps3 ++ [(47, 0)]) = rs ++ [(47, 0)] := by rw [← unhide Hrs]; simp
              show RdR _ _ _ _ _ _ _ _
              rw [e2]
              exact unhide Hr6
      have n1 : (c == 42) = false := by simpa using h1
      have n2 : (c == 47) = false := by simpa using h2
      have Hn1 := hide h1
      have Hn2 := hide h2
      clear h1 h2
      go_wp2_with fail
      go_ret
      refine ⟨true, k, v2, qs, rfl, ?_, hqk, unhide Hr⟩
      exact trm_end (unhide Hg) ⟨unhide Hn, by rw [unhide Hc]; exact unhide Hn1, by rw [unhide Hc]; exact unhide Hn2⟩


set_option maxRecDepth 100000 in
set_option maxHeartbeats 4000000 in
theorem expression_step (n : Nat) (ih : TrmC n) : ExpC n := by
  intro b t p v ps w h hlen
  obtain ⟨ii, hi, hz0, hz1, hz2⟩ := info_parts info_part
  have hsz := h.sz
  have hpz := h.le
  have H := hide h
  have HI := hide ih
  clear h ih
  go_enter Tryd.func78, Tryd.ntmps78
  go_wp2_with fail
  refine (unhide HI b t p v ps _ (unhide H) hlen).mono ?_
  rintro e w1 ⟨ok, p1, v1, ps1, rfl, hf, hle, hr1⟩
  have Hf := hide hf
  have Hr1 := hide hr1
  clear hf hr1
  cases ok with
  | false =>
    go_wp2_with fail
    go_ret
    exact ⟨false, p1, v1, ps1, rfl, trm_no (unhide Hf), hle, unhide Hr1⟩
  | true =>
    go_wp2_with fail
    refine (next_any b t p1 v1 (ps ++ ps1) _ (unhide Hr1).rd).mono ?_
    rintro e w2 ⟨p2, x2, rfl, hr2, hs2⟩
    have Hg0 : Hid (Got ExpS (fun l => ¬ hd l = 32 ∧ ¬ hd l = 42 ∧ ¬ hd l = 47) ((L t).drop p) true ((L t).drop p2) ps1) := (by rw [← skp_same hs2 (got_H (unhide Hf)).1]; exact exp_trm (unhide Hf))
    have Hn0 := hide hs2.nb
    have hl2 := hs2.le
    have hp2 := hr2.rd.le
    have Hr2 := hide ((unhide Hr1).trans hr2)
    clear hr2 hs2
    go_wp2_with fail
    go_loopg [3] (t.size - p2) (fun m sg wr => ∃ k v2 qs, p + qs.length ≤ k ∧ k ≤ t.size ∧ m = t.size - k ∧ sg = .int .u8 (hd ((L t).drop k)) ∧ Hid (Got ExpS (fun l => ¬ hd l = 32 ∧ ¬ hd l = 42 ∧ ¬ hd l = 47) ((L t).drop p) true ((L t).drop k) qs) ∧ Hid (¬ hd ((L t).drop k) = 32) ∧ Hid (RdR b t v w wr k v2 (ps ++ qs)))
    case atStart => exact ⟨p2, v1, ps1, by omega, hp2, rfl, rfl, unhide Hg0, unhide Hn0, unhide Hr2⟩
    case round =>
      obtain ⟨k, v2, qs, hqk, hk, rfl, rfl, Hg, Hn, Hr⟩ := hrel
      obtain ⟨c, hc⟩ : ∃ c, hd ((L t).drop k) = c := ⟨_, rfl⟩
      rw [hc]
      have Hc := hide hc
      clear hc
      by_cases h1 : c = 43
      · subst h1
        have hlt : k < t.size := by
          by_cases hh : k < t.size
          · exact hh
          · have h2 := unhide Hc
            rw [hd_end t k (by omega)] at h2
            cases h2
        have Hl := hide (L_drop t k hlt)
        have Ho : Hid ((t[k].toNat : Int) = 43 ∨ (t[k].toNat : Int) = 45) := by
          show _ ∨ _
          rw [← hd_drop t k hlt, unhide Hc]
          decide
        have Hv : Hid ((t[k].toNat : Int) = 43) := by show _ = _; rw [← hd_drop t k hlt]; exact unhide Hc
        have c1 := (unhide Hr).rd.c1
        have z1 := (unhide Hr).rd.z1
        have Hrm : Hid (RdR b t v w (wr.setCell ⟨b, 1, none⟩ (.int .i64 ((k : Int) + 1))) (k + 1) v2 (ps ++ qs)) := by
          have := (unhide Hr).move (a' := k + 1) (by omega) (by have := (unhide Hr).rd.cnt; omega)
          show RdR _ _ _ _ _ _ _ _
          simpa using this
        go_wp2_with fail
        refine (unhide HI b t (k + 1) v2 (ps ++ qs) _ (unhide Hrm).rd (by omega)).mono ?_
        rintro e w3 ⟨ok, p3, v3, ps3, rfl, hf3, hle3, hr3⟩
        have Hf3 := hide hf3
        have Hr3 : Hid (RdR b t v w w3 p3 v3 (ps ++ (qs ++ ps3))) := by
          show RdR _ _ _ _ _ _ _ _
          rw [← List.append_assoc]
          exact (unhide Hrm).trans hr3
        clear hf3 hr3 c1 z1
        cases ok with
        | false =>
          go_wp2_with fail
          go_ret
          refine ⟨false, p3, v3, qs ++ ps3, rfl, ?_, by simp; omega, unhide Hr3⟩
          exact op_no (o := t[k]) (by rw [unhide Hv]; rfl) (by rw [← unhide Hl]; exact unhide Hg) (unhide Hf3)
        | true =>
          have hcnt := (unhide Hr3).rd.cnt
          have hle4 := (unhide Hr3).rd.le
          have hct : (ps ++ (qs ++ ps3)).length + 1 ≤ p3 := by have := (unhide H).cnt; simp; omega
          obtain ⟨rs, hrs⟩ : ∃ rs, ps ++ (qs ++ ps3) = rs := ⟨_, rfl⟩
          rw [hrs] at Hr3 hcnt hct
          have Hrs := hide hrs
          obtain ⟨ao, cap, hv⟩ := ownsRow_form (unhide Hr3).rd.own
          subst hv
          have c2 := (unhide Hr3).rd.c2
          have z2 := (unhide Hr3).rd.z2
          have hbl := (unhide Hr3).rd.blk.lt
          clear hrs
          go_wp2_with (first
            | (at_builtin; refine wpList_append_own_at _ rfl (.tmp 29) (.tmp 32) 72 rfl (b + 1) 109 ii (.agg #[.int .u8 0, .int .i64 0]) 2 16 Tryd.underlying72 hi hz0 hz1 hz2 rfl (by decide) (.slice ao rs.length cap) rs.length _ rfl ((unhide Hr3).rd.own.alloc _) ⟨w3.heap.size, 0, none⟩ 1 1 [.int .u8 43, .int .i64 0] rfl rfl (cell_two_new' _ _ (by simp) _ _ _) (fun x hx => by simp at hx; rcases hx with rfl | rfl <;> rfl) (by unfold maxLen; omega) (by omega) (by simp; omega) ?_; intro v5 w5 hown5 hgr5 _ hat5; obtain ⟨gf, cf, rfl, hgf, hgf'⟩ := ownsRow_some hown5 (Nat.succ_pos _); have HB5 := hide (((unhide Hr3).rd.blk.alloc _).grown hgr5 (own_ne' (unhide Hr3).rd.own (Nat.lt_succ_self b))); have y2 := (unhide HB5).frozen 2; have y3 := (unhide HB5).cell 2; simp only [List.getElem?_toArray, List.getElem?_cons_zero, List.getElem?_cons_succ] at y3; have Hr5 := hide ((unhide Hr3).push _ 43 0 hown5 hgr5 hat5 hct); clear hown5 hgr5 hat5 c2 z2))
          refine (next_any b t p3 _ _ _ (unhide Hr5).rd).mono ?_
          rintro e w6 ⟨p4, x4, rfl, hr6, hs4⟩
          have Hg4 : Hid (Got ExpS (fun l => ¬ hd l = 32 ∧ ¬ hd l = 42 ∧ ¬ hd l = 47) ((L t).drop p) true ((L t).drop p4) (qs ++ ps3 ++ [((t[k].toNat : Int), 0)])) := exp_add (unhide Ho) (by rw [← unhide Hl]; exact got_any (unhide Hg)) (by rw [← skp_same hs4 (got_H (unhide Hf3)).1]; exact unhide Hf3)
          have Hn4 := hide hs4.nb
          have hl4 := hs4.le
          have hp4 := hr6.rd.le
          have Hr6 := hide ((unhide Hr5).trans hr6)
          clear hr6 hs4
          go_wp2_with fail
          go_roundg (t.size - p4)
          case measure => omega
          case rel =>
            refine ⟨p4, .slice (some ⟨gf, 0, none⟩) (rs.length + 1) cf, qs ++ ps3 ++ [(43, 0)], by simp; omega, hp4, rfl, rfl, ?_, unhide Hn4, ?_⟩
            · have := unhide Hg4
              rw [unhide Hv] at this
              exact this
            · have e2 : ps ++ (qs ++ ps3 ++ [(43, 0)]) = rs ++ [(43, 0)] := by rw [← unhide Hrs]; simp
              show RdR _ _ _ _ _ _ _ _
              rw [e2]
              exact unhide Hr6
      by_cases h2 : c = 45
      · subst h2
        have hlt : k < t.size := by
          by_cases hh : k < t.size
          · exact hh
          · have h2 := unhide Hc
            rw [hd_end t k (by omega)] at h2
            cases h2
        have Hl := hide (L_drop t k hlt)
        have Ho : Hid ((t[k].toNat : Int) = 43 ∨ (t[k].toNat : Int) = 45) := by
          show _ ∨ _
          rw [← hd_drop t k hlt, unhide Hc]
          decide
        have Hv : Hid ((t[k].toNat : Int) = 45) := by show _ = _; rw [← hd_drop t k hlt]; exact unhide Hc
        have c1 := (unhide Hr).rd.c1
        have z1 := (unhide Hr).rd.z1
        have Hrm : Hid (RdR b t v w (wr.setCell ⟨b, 1, none⟩ (.int .i64 ((k : Int) + 1))) (k + 1) v2 (ps ++ qs)) := by
          have := (unhide Hr).move (a' := k + 1) (by omega) (by have := (unhide Hr).rd.cnt; omega)
          show RdR _ _ _ _ _ _ _ _
          simpa using this
        go_wp2_with fail
        refine (unhide HI b t (k + 1) v2 (ps ++ qs) _ (unhide Hrm).rd (by omega)).mono ?_
        rintro e w3 ⟨ok, p3, v3, ps3, rfl, hf3, hle3, hr3⟩
        have Hf3 := hide hf3
        have Hr3 : Hid (RdR b t v w w3 p3 v3 (ps ++ (qs ++ ps3))) := by
          show RdR _ _ _ _ _ _ _ _
          rw [← List.append_assoc]
          exact (unhide Hrm).trans hr3
        clear hf3 hr3 c1 z1
        cases ok with
        | false =>
          go_wp2_with fail
          go_ret
          refine ⟨false, p3, v3, qs ++ ps3, rfl, ?_, by simp; omega, unhide Hr3⟩
          exact op_no (o := t[k]) (by rw [unhide Hv]; rfl) (by rw [← unhide Hl]; exact unhide Hg) (unhide Hf3)
        | true =>
          have hcnt := (unhide Hr3).rd.cnt
          have hle4 := (unhide Hr3).rd.le
          have hct : (ps ++ (qs ++ ps3)).length + 1 ≤ p3 := by have := (unhide H).cnt; simp; omega
          obtain ⟨rs, hrs⟩ : ∃ rs, ps ++ (qs ++ ps3) = rs := ⟨_, rfl⟩
          rw [hrs] at Hr3 hcnt hct
          have Hrs := hide hrs
          obtain ⟨ao, cap, hv⟩ := ownsRow_form (unhide Hr3).rd.own
          subst hv
          have c2 := (unhide Hr3).rd.c2
          have z2 := (unhide Hr3).rd.z2
          have hbl := (unhide Hr3).rd.blk.lt
          clear hrs
          go_wp2_with (first
            | (at_builtin; refine wpList_append_own_at _ rfl (.tmp 29) (.tmp 32) 72 rfl (b + 1) 109 ii (.agg #[.int .u8 0, .int .i64 0]) 2 16 Tryd.underlying72 hi hz0 hz1 hz2 rfl (by decide) (.slice ao rs.length cap) rs.length _ rfl ((unhide Hr3).rd.own.alloc _) ⟨w3.heap.size, 0, none⟩ 1 1 [.int .u8 45, .int .i64 0] rfl rfl (cell_two_new' _ _ (by simp) _ _ _) (fun x hx => by simp at hx; rcases hx with rfl | rfl <;> rfl) (by unfold maxLen; omega) (by omega) (by simp; omega) ?_; intro v5 w5 hown5 hgr5 _ hat5; obtain ⟨gf, cf, rfl, hgf, hgf'⟩ := ownsRow_some hown5 (Nat.succ_pos _); have HB5 := hide (((unhide Hr3).rd.blk.alloc _).grown hgr5 (own_ne' (unhide Hr3).rd.own (Nat.lt_succ_self b))); have y2 := (unhide HB5).frozen 2; have y3 := (unhide HB5).cell 2; simp only [List.getElem?_toArray, List.getElem?_cons_zero, List.getElem?_cons_succ] at y3; have Hr5 := hide ((unhide Hr3).push _ 45 0 hown5 hgr5 hat5 hct); clear hown5 hgr5 hat5 c2 z2))
          refine (next_any b t p3 _ _ _ (unhide Hr5).rd).mono ?_
          rintro e w6 ⟨p4, x4, rfl, hr6, hs4⟩
          have Hg4 : Hid (Got ExpS (fun l => ¬ hd l = 32 ∧ ¬ hd l = 42 ∧ ¬ hd l = 47) ((L t).drop p) true ((L t).drop p4) (qs ++ ps3 ++ [((t[k].toNat : Int), 0)])) := exp_add (unhide Ho) (by rw [← unhide Hl]; exact got_any (unhide Hg)) (by rw [← skp_same hs4 (got_H (unhide Hf3)).1]; exact unhide Hf3)
          have Hn4 := hide hs4.nb
          have hl4 := hs4.le
          have hp4 := hr6.rd.le
          have Hr6 := hide ((unhide Hr5).trans hr6)
          clear hr6 hs4
          go_wp2_with fail
          go_roundg (t.size - p4)
          case measure => omega
          case rel =>
            refine ⟨p4, .slice (some ⟨gf, 0, none⟩) (rs.length + 1) cf, qs ++ ps3 ++ [(45, 0)], by simp; omega, hp4, rfl, rfl, ?_, unhide Hn4, ?_⟩
            · have := unhide Hg4
              rw [unhide Hv] at this
              exact this
            · have e2 : ps ++ (qs ++ ps3 ++ [(45, 0)]) = rs ++ [(45, 0)] := by rw [← unhide Hrs]; simp
              show RdR _ _ _ _ _ _ _ _
              rw [e2]
              exact unhide Hr6
      have n1 : (c == 43) = false := by simpa using h1
      have n2 : (c == 45) = false := by simpa using h2
      have Hn1 := hide h1
      have Hn2 := hide h2
      clear h1 h2
      go_wp2_with fail
      go_ret
      refine ⟨true, k, v2, qs, rfl, ?_, hqk, unhide Hr⟩
      have hh := got_H (unhide Hg)
      refine trm_end (got_any (unhide Hg)) ⟨hh.1, ?_⟩
      have n3 := hh.2.1
      have n4 := hh.2.2
      rw [unhide Hc] at n3 n4 ⊢
      have n1 := unhide Hn1
      have n2 := unhide Hn2
      simp [opB, n1, n2, n3, n4]


theorem all_C (n : Nat) : FacC n ∧ ExpC n := by
  induction n with
  | zero => exact ⟨fun b t p v ps w _ h => absurd h (Nat.not_lt_zero _), fun b t p v ps w _ h => absurd h (Nat.not_lt_zero _)⟩
  | succ n ih =>
    have hF := factor_step n ih.1 ih.2
    exact ⟨hF, expression_step (n + 1) (term_step (n + 1) hF)⟩
theorem expression_any (b : Nat) (t : ByteArray) (p : Nat) (v : Value) (ps : List Pt) (w : World) (h : Rd w b t p v ps) :
    Calls Tryd.prog 78 #[.pointer (some ⟨b, 0, none⟩)] w fun e w' => ∃ ok p' v' ps', e = .returned (.bool ok) ∧ Exp ((L t).drop p) ok ((L t).drop p') ps' ∧ p + ps'.length ≤ p' ∧ RdR b t v w w' p' v' (ps ++ ps') :=
  (all_C (t.size - p + 1)).2 b t p v ps w h (Nat.lt_succ_self _)

end Go.Proofs.YtpcdkhmahbecaaaDoor
