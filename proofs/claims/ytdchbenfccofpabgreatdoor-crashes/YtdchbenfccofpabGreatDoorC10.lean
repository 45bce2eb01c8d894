/- Walks of the reader: term, expression (laid by genI.py). The rows of a report. Walks of the reader: rows. Walks of the reader: readForm. Reports: the document's within and taken. Walks of the document's answer: value, bare, split. Walks of the document's answer: binary, final, cut. Walks of the document's answer: the spots, case by case (laid by genC.py). Walks of the document's answer: reaches, joined, kind. Walks of the document's answer: read. Walks of the document's answer: the spots, case by case (laid by genC.py). Walks of the document's answer: the spots, case by case (laid by genC.py). Walks of the document's answer: the spots, case by case (laid by genC.py). Walks of the document's answer: place. Walks of the document's answer: Read. Reports: the document's grid: the cell of an operand, of an expression. Reports: the document's grid: the cell of an operand. Reports: the document's grid: the cell of an expression. Reports: the document's grid: all cells of a sheet. Reports: the document's strange; a cell as a text. Reports: the document's Report. The digits of a number. -/
import Derived.Test.YtdchbenfccofpabGreatDoorC09
import Derived.Test.YtdchbenfccofpabGreatDoorC02
import Derived.Test.YtdchbenfccofpabGreatDoorC01
import Derived.Deep.LoopGhost
import Derived.Deep.Draws
import Derived.Deep.RegionWith
import Derived.Deep.DeepCutAuto
import Derived.Deep.RegionHeld3
import Derived.Test.YtdchbenfccofpabGreatDoorC03
import Derived.Lib.ItoaLen
import Derived.Lib.ItoaNum
import Derived.Lib.ItoaMem
namespace Go.Proofs.YtdchbenfccofpabGreatDoor
open Go.RowKit Db

theorem got_H {S : List UInt8 → List Pt → Prop} {H : List UInt8 → Prop} {l l' : List UInt8} {ps : List Pt} (h : Got S H l true l' ps) : H l' := by
  obtain ⟨x, _, h1, _⟩ := h
  exact (h1 rfl).2.2


set_option maxRecDepth 100000 in
set_option maxHeartbeats 4000000 in
theorem term_step (n : Nat) (ih : FacC n) : TrmC n := by
  intro b t p v ps w h hlen
  obtain ⟨ii, hi, hz0, hz1, hz2⟩ := info_parts info_part
  have hsz := h.sz
  have hpz := h.le
  have H := hide h
  have HI := hide ih
  clear h ih
  go_enter Tryz.func115, Tryz.ntmps115
  go_wp2_with fail
  refine (unhide HI b t p v ps _ (unhide H) hlen).mono ?_
  rintro e w1 ⟨ok, p1, v1, ps1, rfl, hf, hle, hr1⟩
  have Hf := hide hf
  have Hr1 := hide hr1
  clear hf hr1
  cases ok with
  | false =>
    go_wp2_with fail
    go_ret
    exact ⟨false, p1, v1, ps1, rfl, trm_no (unhide Hf), hle, unhide Hr1⟩
  | true =>
    go_wp2_with fail
    refine (next_any b t p1 v1 (ps ++ ps1) _ (unhide Hr1).rd).mono ?_
    rintro e w2 ⟨p2, x2, rfl, hr2, hs2⟩
    have Hg0 : Hid (Got TrmS (fun _ => True) ((L t).drop p) true ((L t).drop p2) ps1) := trm_fac (by rw [← hs2.eq]; exact unhide Hf) hs2.bl
    have Hn0 := hide hs2.nb
    have hl2 := hs2.le
    have hp2 := hr2.rd.le
    have Hr2 := hide ((unhide Hr1).trans hr2)
    clear hr2 hs2
    go_wp2_with fail
    go_loopg [3] (t.size - p2) (fun m sg wr => ∃ k v2 qs, p + qs.length ≤ k ∧ k ≤ t.size ∧ m = t.size - k ∧ sg = .int .u8 (hd ((L t).drop k)) ∧ Hid (Got TrmS (fun _ => True) ((L t).drop p) true ((L t).drop k) qs) ∧ Hid (¬ hd ((L t).drop k) = 32) ∧ Hid (RdR b t v w wr k v2 (ps ++ qs)))
    case atStart => exact ⟨p2, v1, ps1, by omega, hp2, rfl, rfl, unhide Hg0, unhide Hn0, unhide Hr2⟩
    case round =>
      obtain ⟨k, v2, qs, hqk, hk, rfl, rfl, Hg, Hn, Hr⟩ := hrel
      obtain ⟨c, hc⟩ : ∃ c, hd ((L t).drop k) = c := ⟨_, rfl⟩
      rw [hc]
      have Hc := hide hc
      clear hc
      by_cases h1 : c = 42
      · subst h1
        have hlt : k < t.size := by
          by_cases hh : k < t.size
          · exact hh
          · have h2 := unhide Hc
            rw [hd_end t k (by omega)] at h2
            cases h2
        have Hl := hide (L_drop t k hlt)
        have Ho : Hid ((t[k].toNat : Int) = 42 ∨ (t[k].toNat : Int) = 47) := by
          show _ ∨ _
          rw [← hd_drop t k hlt, unhide Hc]
          decide
        have Hv : Hid ((t[k].toNat : Int) = 42) := by show _ = _; rw [← hd_drop t k hlt]; exact unhide Hc
        have c1 := (unhide Hr).rd.c1
        have z1 := (unhide Hr).rd.z1
        have Hrm : Hid (RdR b t v w (wr.setCell ⟨b, 1, none⟩ (.int .i64 ((k : Int) + 1))) (k + 1) v2 (ps ++ qs)) := by
          have := (unhide Hr).move (a' := k + 1) (by omega) (by have := (unhide Hr).rd.cnt; omega)
          show RdR _ _ _ _ _ _ _ _
          simpa using this
        go_wp2_with fail
        refine (unhide HI b t (k + 1) v2 (ps ++ qs) _ (unhide Hrm).rd (by omega)).mono ?_
        rintro e w3 ⟨ok, p3, v3, ps3, rfl, hf3, hle3, hr3⟩
        have Hf3 := hide hf3
        have Hr3 : Hid (RdR b t v w w3 p3 v3 (ps ++ (qs ++ ps3))) := by
          show RdR _ _ _ _ _ _ _ _
          rw [← List.append_assoc]
          exact (unhide Hrm).trans hr3
        clear hf3 hr3 c1 z1
        cases ok with
        | false =>
          go_wp2_with fail
          go_ret
          refine ⟨false, p3, v3, qs ++ ps3, rfl, ?_, by simp; omega, unhide Hr3⟩
          exact op_no (o := t[k]) (by rw [unhide Hv]; rfl) (by rw [← unhide Hl]; exact unhide Hg) (unhide Hf3)
        | true =>
          have hcnt := (unhide Hr3).rd.cnt
          have hle4 := (unhide Hr3).rd.le
          have hct : (ps ++ (qs ++ ps3)).length + 1 ≤ p3 := by have := (unhide H).cnt; simp; omega
          obtain ⟨rs, hrs⟩ : ∃ rs, ps ++ (qs ++ ps3) = rs := ⟨_, rfl⟩
          rw [hrs] at Hr3 hcnt hct
          have Hrs := hide hrs
          obtain ⟨ao, cap, hv⟩ := ownsRow_form (unhide Hr3).rd.own
          subst hv
          have c2 := (unhide Hr3).rd.c2
          have z2 := (unhide Hr3).rd.z2
          have hbl := (unhide Hr3).rd.blk.lt
          clear hrs
          go_wp2_with (first
            | (at_builtin; refine wpList_append_own_at _ rfl (.tmp 29) (.tmp 32) 116 rfl (b + 1) 146 ii (.agg #[.int .u8 0, .int .i64 0]) 2 16 Tryz.underlying116 hi hz0 hz1 hz2 rfl (by decide) (.slice ao rs.length cap) rs.length _ rfl ((unhide Hr3).rd.own.alloc _) ⟨w3.heap.size, 0, none⟩ 1 1 [.int .u8 42, .int .i64 0] rfl rfl (cell_two_new' _ _ (by simp) _ _ _) (fun x hx => by simp at hx; rcases hx with rfl | rfl <;> rfl) (by unfold maxLen; omega) (by omega) (by simp; omega) ?_; intro v5 w5 hown5 hgr5 _ hat5; obtain ⟨gf, cf, rfl, hgf, hgf'⟩ := ownsRow_some hown5 (Nat.succ_pos _); have HB5 := hide (((unhide Hr3).rd.blk.alloc _).grown hgr5 (own_ne' (unhide Hr3).rd.own (Nat.lt_succ_self b))); have y2 := (unhide HB5).frozen 2; have y3 := (unhide HB5).cell 2; simp only [List.getElem?_toArray, List.getElem?_cons_zero, List.getElem?_cons_succ] at y3; have Hr5 := hide ((unhide Hr3).push _ 42 0 hown5 hgr5 hat5 hct); clear hown5 hgr5 hat5 c2 z2))
          refine (next_any b t p3 _ _ _ (unhide Hr5).rd).mono ?_
          rintro e w6 ⟨p4, x4, rfl, hr6, hs4⟩
          have Hg4 : Hid (Got TrmS (fun _ => True) ((L t).drop p) true ((L t).drop p4) (qs ++ ps3 ++ [((t[k].toNat : Int), 0)])) := trm_mul (unhide Ho) (by rw [← unhide Hl]; exact unhide Hg) (by rw [← hs4.eq]; exact unhide Hf3) hs4.bl
          have Hn4 := hide hs4.nb
          have hl4 := hs4.le
          have hp4 := hr6.rd.le
          have Hr6 := hide ((unhide Hr5).trans hr6)
          clear hr6 hs4
          go_wp2_with fail
          go_roundg (t.size - p4)
          case measure => omega
          case rel =>
            refine ⟨p4, .slice (some ⟨gf, 0, none⟩) (rs.length + 1) cf, qs ++ ps3 ++ [(42, 0)], by simp; omega, hp4, rfl, rfl, ?_, unhide Hn4, ?_⟩
            · have := unhide Hg4
              rw [unhide Hv] at this
              exact this
            · have e2 : ps ++ (qs ++ ps3 ++ [(42, 0)]) = rs ++ [(42, 0)] := by rw [← unhide Hrs]; simp
              show RdR _ _ _ _ _ _ _ _
              rw [e2]
              exact unhide Hr6
      by_cases h2 : c = 47
      · subst h2
        have hlt : k < t.size := by
          by_cases hh : k < t.size
          · exact hh
          · have h2 := unhide Hc
            rw [hd_end t k (by omega)] at h2
            cases h2
        have Hl := hide (L_drop t k hlt)
        have Ho : Hid ((t[k].toNat : Int) = 42 ∨ (t[k].toNat : Int) = 47) := by
          show _ ∨ _
          rw [← hd_drop t k hlt, unhide Hc]
          decide
        have Hv : Hid ((t[k].toNat : Int) = 47) := by show _ = _; rw [← hd_drop t k hlt]; exact unhide Hc
        have c1 := (unhide Hr).rd.c1
        have z1 := (unhide Hr).rd.z1
        have Hrm : Hid (RdR b t v w (wr.setCell ⟨b, 1, none⟩ (.int .i64 ((k : Int) + 1))) (k + 1) v2 (ps ++ qs)) := by
          have := (unhide Hr).move (a' := k + 1) (by omega) (by have := (unhide Hr).rd.cnt; omega)
          show RdR _ _ _ _ _ _ _ _
          simpa using this
        go_wp2_with fail
        refine (unhide HI b t (k + 1) v2 (ps ++ qs) _ (unhide Hrm).rd (by omega)).mono ?_
        rintro e w3 ⟨ok, p3, v3, ps3, rfl, hf3, hle3, hr3⟩
        have Hf3 := hide hf3
        have Hr3 : Hid (RdR b t v w w3 p3 v3 (ps ++ (qs ++ ps3))) := by
          show RdR _ _ _ _ _ _ _ _
          rw [← List.append_assoc]
          exact (unhide Hrm).trans hr3
        clear hf3 hr3 c1 z1
        cases ok with
        | false =>
          go_wp2_with fail
          go_ret
          refine ⟨false, p3, v3, qs ++ ps3, rfl, ?_, by simp; omega, unhide Hr3⟩
          exact op_no (o := t[k]) (by rw [unhide Hv]; rfl) (by rw [← unhide Hl]; exact unhide Hg) (unhide Hf3)
        | true =>
          have hcnt := (unhide Hr3).rd.cnt
          have hle4 := (unhide Hr3).rd.le
          have hct : (ps ++ (qs ++ ps3)).length + 1 ≤ p3 := by have := (unhide H).cnt; simp; omega
          obtain ⟨rs, hrs⟩ : ∃ rs, ps ++ (qs ++ ps3) = rs := ⟨_, rfl⟩
          rw [hrs] at Hr3 hcnt hct
          have Hrs := hide hrs
          obtain ⟨ao, cap, hv⟩ := ownsRow_form (unhide Hr3).rd.own
          subst hv
          have c2 := (unhide Hr3).rd.c2
          have z2 := (unhide Hr3).rd.z2
          have hbl := (unhide Hr3).rd.blk.lt
          clear hrs
          go_wp2_with (first
            | (at_builtin; refine wpList_append_own_at _ rfl (.tmp 29) (.tmp 32) 116 rfl (b + 1) 146 ii (.agg #[.int .u8 0, .int .i64 0]) 2 16 Tryz.underlying116 hi hz0 hz1 hz2 rfl (by decide) (.slice ao rs.length cap) rs.length _ rfl ((unhide Hr3).rd.own.alloc _) ⟨w3.heap.size, 0, none⟩ 1 1 [.int .u8 47, .int .i64 0] rfl rfl (cell_two_new' _ _ (by simp) _ _ _) (fun x hx => by simp at hx; rcases hx with rfl | rfl <;> rfl) (by unfold maxLen; omega) (by omega) (by simp; omega) ?_; intro v5 w5 hown5 hgr5 _ hat5; obtain ⟨gf, cf, rfl, hgf, hgf'⟩ := ownsRow_some hown5 (Nat.succ_pos _); have HB5 := hide (((unhide Hr3).rd.blk.alloc _).grown hgr5 (own_ne' (unhide Hr3).rd.own (Nat.lt_succ_self b))); have y2 := (unhide HB5).frozen 2; have y3 := (unhide HB5).cell 2; simp only [List.getElem?_toArray, List.getElem?_cons_zero, List.getElem?_cons_succ] at y3; have Hr5 := hide ((unhide Hr3).push _ 47 0 hown5 hgr5 hat5 hct); clear hown5 hgr5 hat5 c2 z2))
          refine (next_any b t p3 _ _ _ (unhide Hr5).rd).mono ?_
          rintro e w6 ⟨p4, x4, rfl, hr6, hs4⟩
          have Hg4 : Hid (Got TrmS (fun _ => True) ((L t).drop p) true ((L t).drop p4) (qs ++ ps3 ++ [((t[k].toNat : Int), 0)])) := trm_mul (unhide Ho) (by rw [← unhide Hl]; exact unhide Hg) (by rw [← hs4.eq]; exact unhide Hf3) hs4.bl
          have Hn4 := hide hs4.nb
          have hl4 := hs4.le
          have hp4 := hr6.rd.le
          have Hr6 := hide ((unhide Hr5).trans hr6)
          clear hr6 hs4
          go_wp2_with fail
          go_roundg (t.size - p4)
          case measure => omega
          case rel =>
            refine ⟨p4, .slice (some ⟨gf, 0, none⟩) (rs.length + 1) cf, qs ++ ps3 ++ [(47, 0)], by simp; omega, hp4, rfl, rfl, ?_, unhide Hn4, ?_⟩
            · have := unhide Hg4
              rw [unhide Hv] at this
              exact this
            · have e2 : ps ++ (qs ++ ps3 ++ [(47, 0)]) = rs ++ [(47, 0)] := by rw [← unhide Hrs]; simp
              show RdR _ _ _ _ _ _ _ _
              rw [e2]
              exact unhide Hr6
      have n1 : (c == 42) = false := by simpa using h1
      have n2 : (c == 47) = false := by simpa using h2
      have Hn1 := hide h1
      have Hn2 := hide h2
      clear h1 h2
      go_wp2_with fail
      go_ret
      refine ⟨true, k, v2, qs, rfl, ?_, hqk, unhide Hr⟩
      exact trm_end (unhide Hg) ⟨unhide Hn, by rw [unhide Hc]; exact unhide Hn1, by rw [unhide Hc]; exact unhide Hn2⟩


set_option maxRecDepth 100000 in
set_option maxHeartbeats 4000000 in
theorem expression_step (n : Nat) (ih : TrmC n) : ExpC n := by
  intro b t p v ps w h hlen
  obtain ⟨ii, hi, hz0, hz1, hz2⟩ := info_parts info_part
  have hsz := h.sz
  have hpz := h.le
  have H := hide h
  have HI := hide ih
  clear h ih
  go_enter Tryz.func95, Tryz.ntmps95
  go_wp2_with fail
  refine (unhide HI b t p v ps _ (unhide H) hlen).mono ?_
  rintro e w1 ⟨ok, p1, v1, ps1, rfl, hf, hle, hr1⟩
  have Hf := hide hf
  have Hr1 := hide hr1
  clear hf hr1
  cases ok with
  | false =>
    go_wp2_with fail
    go_ret
    exact ⟨false, p1, v1, ps1, rfl, trm_no (unhide Hf), hle, unhide Hr1⟩
  | true =>
    go_wp2_with fail
    refine (next_any b t p1 v1 (ps ++ ps1) _ (unhide Hr1).rd).mono ?_
    rintro e w2 ⟨p2, x2, rfl, hr2, hs2⟩
    have Hg0 : Hid (Got ExpS (fun l => ¬ hd l = 32 ∧ ¬ hd l = 42 ∧ ¬ hd l = 47) ((L t).drop p) true ((L t).drop p2) ps1) := (by rw [← skp_same hs2 (got_H (unhide Hf)).1]; exact exp_trm (unhide Hf))
    have Hn0 := hide hs2.nb
    have hl2 := hs2.le
    have hp2 := hr2.rd.le
    have Hr2 := hide ((unhide Hr1).trans hr2)
    clear hr2 hs2
    go_wp2_with fail
    go_loopg [3] (t.size - p2) (fun m sg wr => ∃ k v2 qs, p + qs.length ≤ k ∧ k ≤ t.size ∧ m = t.size - k ∧ sg = .int .u8 (hd ((L t).drop k)) ∧ Hid (Got ExpS (fun l => ¬ hd l = 32 ∧ ¬ hd l = 42 ∧ ¬ hd l = 47) ((L t).drop p) true ((L t).drop k) qs) ∧ Hid (¬ hd ((L t).drop k) = 32) ∧ Hid (RdR b t v w wr k v2 (ps ++ qs)))
    case atStart => exact ⟨p2, v1, ps1, by omega, hp2, rfl, rfl, unhide Hg0, unhide Hn0, unhide Hr2⟩
    case round =>
      obtain ⟨k, v2, qs, hqk, hk, rfl, rfl, Hg, Hn, Hr⟩ := hrel
      obtain ⟨c, hc⟩ : ∃ c, hd ((L t).drop k) = c := ⟨_, rfl⟩
      rw [hc]
      have Hc := hide hc
      clear hc
      by_cases h1 : c = 43
      · subst h1
        have hlt : k < t.size := by
          by_cases hh : k < t.size
          · exact hh
          · have h2 := unhide Hc
            rw [hd_end t k (by omega)] at h2
            cases h2
        have Hl := hide (L_drop t k hlt)
        have Ho : Hid ((t[k].toNat : Int) = 43 ∨ (t[k].toNat : Int) = 45) := by
          show _ ∨ _
          rw [← hd_drop t k hlt, unhide Hc]
          decide
        have Hv : Hid ((t[k].toNat : Int) = 43) := by show _ = _; rw [← hd_drop t k hlt]; exact unhide Hc
        have c1 := (unhide Hr).rd.c1
        have z1 := (unhide Hr).rd.z1
        have Hrm : Hid (RdR b t v w (wr.setCell ⟨b, 1, none⟩ (.int .i64 ((k : Int) + 1))) (k + 1) v2 (ps ++ qs)) := by
          have := (unhide Hr).move (a' := k + 1) (by omega) (by have := (unhide Hr).rd.cnt; omega)
          show RdR _ _ _ _ _ _ _ _
          simpa using this
        go_wp2_with fail
        refine (unhide HI b t (k + 1) v2 (ps ++ qs) _ (unhide Hrm).rd (by omega)).mono ?_
        rintro e w3 ⟨ok, p3, v3, ps3, rfl, hf3, hle3, hr3⟩
        have Hf3 := hide hf3
        have Hr3 : Hid (RdR b t v w w3 p3 v3 (ps ++ (qs ++ ps3))) := by
          show RdR _ _ _ _ _ _ _ _
          rw [← List.append_assoc]
          exact (unhide Hrm).trans hr3
        clear hf3 hr3 c1 z1
        cases ok with
        | false =>
          go_wp2_with fail
          go_ret
          refine ⟨false, p3, v3, qs ++ ps3, rfl, ?_, by simp; omega, unhide Hr3⟩
          exact op_no (o := t[k]) (by rw [unhide Hv]; rfl) (by rw [← unhide Hl]; exact unhide Hg) (unhide Hf3)
        | true =>
          have hcnt := (unhide Hr3).rd.cnt
          have hle4 := (unhide Hr3).rd.le
          have hct : (ps ++ (qs ++ ps3)).length + 1 ≤ p3 := by have := (unhide H).cnt; simp; omega
          obtain ⟨rs, hrs⟩ : ∃ rs, ps ++ (qs ++ ps3) = rs := ⟨_, rfl⟩
          rw [hrs] at Hr3 hcnt hct
          have Hrs := hide hrs
          obtain ⟨ao, cap, hv⟩ := ownsRow_form (unhide Hr3).rd.own
          subst hv
          have c2 := (unhide Hr3).rd.c2
          have z2 := (unhide Hr3).rd.z2
          have hbl := (unhide Hr3).rd.blk.lt
          clear hrs
          go_wp2_with (first
            | (at_builtin; refine wpList_append_own_at _ rfl (.tmp 29) (.tmp 32) 116 rfl (b + 1) 146 ii (.agg #[.int .u8 0, .int .i64 0]) 2 16 Tryz.underlying116 hi hz0 hz1 hz2 rfl (by decide) (.slice ao rs.length cap) rs.length _ rfl ((unhide Hr3).rd.own.alloc _) ⟨w3.heap.size, 0, none⟩ 1 1 [.int .u8 43, .int .i64 0] rfl rfl (cell_two_new' _ _ (by simp) _ _ _) (fun x hx => by simp at hx; rcases hx with rfl | rfl <;> rfl) (by unfold maxLen; omega) (by omega) (by simp; omega) ?_; intro v5 w5 hown5 hgr5 _ hat5; obtain ⟨gf, cf, rfl, hgf, hgf'⟩ := ownsRow_some hown5 (Nat.succ_pos _); have HB5 := hide (((unhide Hr3).rd.blk.alloc _).grown hgr5 (own_ne' (unhide Hr3).rd.own (Nat.lt_succ_self b))); have y2 := (unhide HB5).frozen 2; have y3 := (unhide HB5).cell 2; simp only [List.getElem?_toArray, List.getElem?_cons_zero, List.getElem?_cons_succ] at y3; have Hr5 := hide ((unhide Hr3).push _ 43 0 hown5 hgr5 hat5 hct); clear hown5 hgr5 hat5 c2 z2))
          refine (next_any b t p3 _ _ _ (unhide Hr5).rd).mono ?_
          rintro e w6 ⟨p4, x4, rfl, hr6, hs4⟩
          have Hg4 : Hid (Got ExpS (fun l => ¬ hd l = 32 ∧ ¬ hd l = 42 ∧ ¬ hd l = 47) ((L t).drop p) true ((L t).drop p4) (qs ++ ps3 ++ [((t[k].toNat : Int), 0)])) := exp_add (unhide Ho) (by rw [← unhide Hl]; exact got_any (unhide Hg)) (by rw [← skp_same hs4 (got_H (unhide Hf3)).1]; exact unhide Hf3)
          have Hn4 := hide hs4.nb
          have hl4 := hs4.le
          have hp4 := hr6.rd.le
          have Hr6 := hide ((unhide Hr5).trans hr6)
          clear hr6 hs4
          go_wp2_with fail
          go_roundg (t.size - p4)
          case measure => omega
          case rel =>
            refine ⟨p4, .slice (some ⟨gf, 0, none⟩) (rs.length + 1) cf, qs ++ ps3 ++ [(43, 0)], by simp; omega, hp4, rfl, rfl, ?_, unhide Hn4, ?_⟩
            · have := unhide Hg4
              rw [unhide Hv] at this
              exact this
            · have e2 : ps ++ (qs ++ ps3 ++ [(43, 0)]) = rs ++ [(43, 0)] := by rw [← unhide Hrs]; simp
              show RdR _ _ _ _ _ _ _ _
              rw [e2]
              exact unhide Hr6
      by_cases h2 : c = 45
      · subst h2
        have hlt : k < t.size := by
          by_cases hh : k < t.size
          · exact hh
          · have h2 := unhide Hc
            rw [hd_end t k (by omega)] at h2
            cases h2
        have Hl := hide (L_drop t k hlt)
        have Ho : Hid ((t[k].toNat : Int) = 43 ∨ (t[k].toNat : Int) = 45) := by
          show _ ∨ _
          rw [← hd_drop t k hlt, unhide Hc]
          decide
        have Hv : Hid ((t[k].toNat : Int) = 45) := by show _ = _; rw [← hd_drop t k hlt]; exact unhide Hc
        have c1 := (unhide Hr).rd.c1
        have z1 := (unhide Hr).rd.z1
        have Hrm : Hid (RdR b t v w (wr.setCell ⟨b, 1, none⟩ (.int .i64 ((k : Int) + 1))) (k + 1) v2 (ps ++ qs)) := by
          have := (unhide Hr).move (a' := k + 1) (by omega) (by have := (unhide Hr).rd.cnt; omega)
          show RdR _ _ _ _ _ _ _ _
          simpa using this
        go_wp2_with fail
        refine (unhide HI b t (k + 1) v2 (ps ++ qs) _ (unhide Hrm).rd (by omega)).mono ?_
        rintro e w3 ⟨ok, p3, v3, ps3, rfl, hf3, hle3, hr3⟩
        have Hf3 := hide hf3
        have Hr3 : Hid (RdR b t v w w3 p3 v3 (ps ++ (qs ++ ps3))) := by
          show RdR _ _ _ _ _ _ _ _
          rw [← List.append_assoc]
          exact (unhide Hrm).trans hr3
        clear hf3 hr3 c1 z1
        cases ok with
        | false =>
          go_wp2_with fail
          go_ret
          refine ⟨false, p3, v3, qs ++ ps3, rfl, ?_, by simp; omega, unhide Hr3⟩
          exact op_no (o := t[k]) (by rw [unhide Hv]; rfl) (by rw [← unhide Hl]; exact unhide Hg) (unhide Hf3)
        | true =>
          have hcnt := (unhide Hr3).rd.cnt
          have hle4 := (unhide Hr3).rd.le
          have hct : (ps ++ (qs ++ ps3)).length + 1 ≤ p3 := by have := (unhide H).cnt; simp; omega
          obtain ⟨rs, hrs⟩ : ∃ rs, ps ++ (qs ++ ps3) = rs := ⟨_, rfl⟩
          rw [hrs] at Hr3 hcnt hct
          have Hrs := hide hrs
          obtain ⟨ao, cap, hv⟩ := ownsRow_form (unhide Hr3).rd.own
          subst hv
          have c2 := (unhide Hr3).rd.c2
          have z2 := (unhide Hr3).rd.z2
          have hbl := (unhide Hr3).rd.blk.lt
          clear hrs
          go_wp2_with (first
            | (at_builtin; refine wpList_append_own_at _ rfl (.tmp 29) (.tmp 32) 116 rfl (b + 1) 146 ii (.agg #[.int .u8 0, .int .i64 0]) 2 16 Tryz.underlying116 hi hz0 hz1 hz2 rfl (by decide) (.slice ao rs.length cap) rs.length _ rfl ((unhide Hr3).rd.own.alloc _) ⟨w3.heap.size, 0, none⟩ 1 1 [.int .u8 45, .int .i64 0] rfl rfl (cell_two_new' _ _ (by simp) _ _ _) (fun x hx => by simp at hx; rcases hx with rfl | rfl <;> rfl) (by unfold maxLen; omega) (by omega) (by simp; omega) ?_; intro v5 w5 hown5 hgr5 _ hat5; obtain ⟨gf, cf, rfl, hgf, hgf'⟩ := ownsRow_some hown5 (Nat.succ_pos _); have HB5 := hide (((unhide Hr3).rd.blk.alloc _).grown hgr5 (own_ne' (unhide Hr3).rd.own (Nat.lt_succ_self b))); have y2 := (unhide HB5).frozen 2; have y3 := (unhide HB5).cell 2; simp only [List.getElem?_toArray, List.getElem?_cons_zero, List.getElem?_cons_succ] at y3; have Hr5 := hide ((unhide Hr3).push _ 45 0 hown5 hgr5 hat5 hct); clear hown5 hgr5 hat5 c2 z2))
          refine (next_any b t p3 _ _ _ (unhide Hr5).rd).mono ?_
          rintro e w6 ⟨p4, x4, rfl, hr6, hs4⟩
          have Hg4 : Hid (Got ExpS (fun l => ¬ hd l = 32 ∧ ¬ hd l = 42 ∧ ¬ hd l = 47) ((L t).drop p) true ((L t).drop p4) (qs ++ ps3 ++ [((t[k].toNat : Int), 0)])) := exp_add (unhide Ho) (by rw [← unhide Hl]; exact got_any (unhide Hg)) (by rw [← skp_same hs4 (got_H (unhide Hf3)).1]; exact unhide Hf3)
          have Hn4 := hide hs4.nb
          have hl4 := hs4.le
          have hp4 := hr6.rd.le
          have Hr6 := hide ((unhide Hr5).trans hr6)
          clear hr6 hs4
          go_wp2_with fail
          go_roundg (t.size - p4)
          case measure => omega
          case rel =>
            refine ⟨p4, .slice (some ⟨gf, 0, none⟩) (rs.length + 1) cf, qs ++ ps3 ++ [(45, 0)], by simp; omega, hp4, rfl, rfl, ?_, unhide Hn4, ?_⟩
            · have := unhide Hg4
              rw [unhide Hv] at this
              exact this
            · have e2 : ps ++ (qs ++ ps3 ++ [(45, 0)]) = rs ++ [(45, 0)] := by rw [← unhide Hrs]; simp
              show RdR _ _ _ _ _ _ _ _
              rw [e2]
              exact unhide Hr6
      have n1 : (c == 43) = false := by simpa using h1
      have n2 : (c == 45) = false := by simpa using h2
      have Hn1 := hide h1
      have Hn2 := hide h2
      clear h1 h2
      go_wp2_with fail
      go_ret
      refine ⟨true, k, v2, qs, rfl, ?_, hqk, unhide Hr⟩
      have hh := got_H (unhide Hg)
      refine trm_end (got_any (unhide Hg)) ⟨hh.1, ?_⟩
      have n3 := hh.2.1
      have n4 := hh.2.2
      rw [unhide Hc] at n3 n4 ⊢
      have n1 := unhide Hn1
      have n2 := unhide Hn2
      simp [opB, n1, n2, n3, n4]


theorem all_C (n : Nat) : FacC n ∧ ExpC n := by
  induction n with
  | zero => exact ⟨fun b t p v ps w _ h => absurd h (Nat.not_lt_zero _), fun b t p v ps w _ h => absurd h (Nat.not_lt_zero _)⟩
  | succ n ih =>
    have hF := factor_step n ih.1 ih.2
    exact ⟨hF, expression_step (n + 1) (term_step (n + 1) hF)⟩
theorem expression_any (b : Nat) (t : ByteArray) (p : Nat) (v : Value) (ps : List Pt) (w : World) (h : Rd w b t p v ps) :
    Calls Tryz.prog 95 #[.pointer (some ⟨b, 0, none⟩)] w fun e w' => ∃ ok p' v' ps', e = .returned (.bool ok) ∧ Exp ((L t).drop p) ok ((L t).drop p') ps' ∧ p + ps'.length ≤ p' ∧ RdR b t v w w' p' v' (ps ++ ps') :=
  (all_C (t.size - p + 1)).2 b t p v ps w h (Nat.lt_succ_self _)

end Go.Proofs.YtdchbenfccofpabGreatDoor
namespace Db

/-- Rows and their parts. -/
def RowsS (rows : List (List UInt8)) (pss : List (List Pt)) : Prop := rows.length = pss.length ∧ ∀ (i : Nat) e ps, rows[i]? = some e → pss[i]? = some ps → ExpS e ps
theorem RowsS.nil : RowsS [] [] := ⟨rfl, by intro i e ps h; simp at h⟩
theorem RowsS.snoc {rows : List (List UInt8)} {pss : List (List Pt)} (h : RowsS rows pss) {e : List UInt8} {ps : List Pt} (he : ExpS e ps) : RowsS (rows ++ [e]) (pss ++ [ps]) := by
  refine ⟨by simp [h.1], ?_⟩
  intro i e' ps' h1 h2
  by_cases hi : i < rows.length
  · rw [List.getElem?_append_left hi] at h1
    rw [List.getElem?_append_left (by rw [← h.1]; exact hi)] at h2
    exact h.2 i e' ps' h1 h2
  · rw [List.getElem?_append_right (by omega)] at h1
    rw [List.getElem?_append_right (by rw [← h.1]; omega)] at h2
    rw [← h.1] at h2
    match hk : i - rows.length, h1, h2 with
    | 0, h1, h2 => simp at h1 h2; subst h1 h2; exact he
    | k + 1, h1, h2 => simp at h1

/-- Some rows have been read, each with its semicolon. -/
structure RowSt (l l' : List UInt8) (rows : List (List UInt8)) (pss : List (List Pt)) : Prop where
  ex : ∃ x, l = x ++ l' ∧ (∀ i : Int, plc 6 0 0 i l = plc 6 0 0 (i + x.length) l') ∧ (∀ r, split (bare x ++ r) 59 = rows ++ split r 59) ∧ ∀ c ∈ bare x, ¬ c.toNat = 124
  rs : RowsS rows pss
/-- The rows have been read. -/
structure RowEnd (l : List UInt8) (ok : Bool) (l' : List UInt8) (rows : List (List UInt8)) (pss : List (List Pt)) : Prop where
  yes : ok = true → (∀ i : Int, plc 6 0 0 i l = -1) ∧ split (bare l) 59 = rows ∧ (∀ c ∈ bare l, ¬ c.toNat = 124) ∧ RowsS rows pss
  no : ok = false → ∃ x, l = x ++ l' ∧ ∀ i : Int, plc 6 0 0 i l = i + x.length

theorem RowSt.start (l : List UInt8) : RowSt l l [] [] := ⟨⟨[], rfl, fun i => by simp, fun r => by simp [bare], by simp [bare]⟩, RowsS.nil⟩
theorem exp_ne {e : List UInt8} {ps : List Pt} (h : ExpS e ps) : ∀ c ∈ e, c ≠ 59 := by
  rintro c hc rfl
  exact (h.chars 59 hc).2.2.1 rfl
theorem u8_59 {c : UInt8} (h : (c.toNat : Int) = 59) : c = 59 := UInt8.toNat_inj.1 (by simp; omega)
theorem RowSt.no {l l1 l' : List UInt8} {rows : List (List UInt8)} {pss : List (List Pt)} {ps : List Pt} (h : RowSt l l1 rows pss) (he : Exp l1 false l' ps) (rows' : List (List UInt8)) (pss' : List (List Pt)) : RowEnd l false l' rows' pss' := by
  obtain ⟨x, rfl, h1, h2, h3⟩ := h.ex
  obtain ⟨y, rfl, g1, g2⟩ := he
  refine ⟨(fun h0 => by cases h0), fun _ => ⟨x ++ y, by simp, fun i => ?_⟩⟩
  rw [h1, g2 rfl 0 0 _ (by omega)]; simp; omega
theorem RowSt.semi {l l1 r : List UInt8} {rows : List (List UInt8)} {pss : List (List Pt)} {ps : List Pt} {c : UInt8} (h : RowSt l l1 rows pss) (he : Exp l1 true (c :: r) ps) (hc : (c.toNat : Int) = 59) : ∃ e, RowSt l r (rows ++ [e]) (pss ++ [ps]) := by
  obtain ⟨x, rfl, h1, h2, h3⟩ := h.ex
  obtain ⟨y, rfl, g1, g2⟩ := he
  obtain ⟨hp, hs, _⟩ := g1 rfl
  refine ⟨bare y, ⟨x ++ y ++ [c], by simp, fun i => ?_, fun q => ?_, ?_⟩, h.rs.snoc hs⟩
  · rw [h1, hp 0 0 _ (by omega), plc_row hc]
    congr 1
    simp; omega
  · simp only [bare_append, u8_59 hc, List.append_assoc]
    rw [show bare [59] = [59] from rfl, h2, List.cons_append, List.nil_append, split_cons 59 _ q (exp_ne hs)]
    rfl
  · intro k hk
    simp only [bare_append, u8_59 hc, List.mem_append] at hk
    rcases hk with (hk | hk) | hk
    · exact h3 k hk
    · exact (hs.chars k hk).2.2.2
    · rw [show bare [59] = [59] from rfl] at hk
      simp at hk; subst hk; decide
theorem RowSt.fin_no {l l1 l' : List UInt8} {rows : List (List UInt8)} {pss : List (List Pt)} {ps : List Pt} (h : RowSt l l1 rows pss) (he : Exp l1 true l' ps) (h59 : ¬ hd l' = 59) (hn : l' ≠ []) (rows' : List (List UInt8)) (pss' : List (List Pt)) : RowEnd l false l' rows' pss' := by
  obtain ⟨x, rfl, h1, h2, h3⟩ := h.ex
  obtain ⟨y, rfl, g1, g2⟩ := he
  obtain ⟨hp, hs, hh⟩ := g1 rfl
  refine ⟨(fun h0 => by cases h0), fun _ => ⟨x ++ y, by simp, fun i => ?_⟩⟩
  rw [h1, hp 0 0 _ (by omega), plc_fail0 l' hn hh.1 hh.2 h59]; simp; omega
theorem RowSt.fin_yes {l l1 : List UInt8} {rows : List (List UInt8)} {pss : List (List Pt)} {ps : List Pt} (h : RowSt l l1 rows pss) (he : Exp l1 true [] ps) : ∃ e, RowEnd l true [] (rows ++ [e]) (pss ++ [ps]) := by
  obtain ⟨x, rfl, h1, h2, h3⟩ := h.ex
  obtain ⟨y, rfl, g1, g2⟩ := he
  obtain ⟨hp, hs, hh⟩ := g1 rfl
  refine ⟨bare y, fun _ => ⟨fun i => ?_, ?_, ?_, h.rs.snoc hs⟩, (fun h0 => by cases h0)⟩
  · rw [h1, hp 0 0 _ (by omega)]; rfl
  · simp only [List.append_nil, bare_append]
    rw [h2, split_one 59 _ (exp_ne hs)]
  · intro k hk
    simp only [List.append_nil, bare_append, List.mem_append] at hk
    rcases hk with hk | hk
    · exact h3 k hk
    · exact (hs.chars k hk).2.2.2

end Db
namespace Go.Proofs.YtdchbenfccofpabGreatDoor
open Go.RowKit Db

theorem info_row : (Tryz.prog.info? 118).map (fun i => (i.zero, i.size, i.bytes)) = some (some (.agg #[.slice none 0 0]), 1, 24) := by kernel_rfl

/-- Two rows of cells of two types lie in two blocks. -/
theorem own_apart {w : World} {B B' : Nat} {e e' : TypeId} {s s' : Nat} {v v' : Value} {n n' : Nat} {xs xs' : List Value} (h : w.ownsRow B e s v n xs) (h' : w.ownsRow B' e' s' v' n' xs') (hne : e ≠ e') : v.ownBlock = none ∨ v.ownBlock ≠ v'.ownBlock := by
  rcases h.2 with ⟨rfl, _⟩ | ⟨g, cap, cur, rfl, _, hg, _⟩
  · exact .inl rfl
  · refine .inr (fun eq => ?_)
    rcases h'.2 with ⟨rfl, _⟩ | ⟨g', cap', cur', rfl, _, hg', _⟩
    · simp [Value.ownBlock] at eq
    · simp [Value.ownBlock] at eq
      subst eq
      rw [hg] at hg'
      simp at hg'
      exact hne hg'.2

/-- The rows as they lie: the list's cells, and for each its parts. -/
structure RowsAt (w : World) (B : Nat) (vr : Value) (vs : List Value) (pss : List (List Pt)) : Prop where
  own : w.ownsRow B 118 1 vr vs.length vs
  len : vs.length = pss.length
  row : ∀ (i : Nat) v ps, vs[i]? = some v → pss[i]? = some ps → w.ownsRow B 146 2 v ps.length (cellsP ps)
  bd : ∀ ps ∈ pss, ps.length ≤ 200
theorem RowsAt.nil (w : World) (B : Nat) : RowsAt w B (.slice none 0 0) [] [] := ⟨World.ownsRow_nil _ _ _ _, rfl, (by intro i v ps h; simp at h), by simp⟩
theorem RowsAt.frm {w w' : World} {B : Nat} {X : Nat → Prop} {vr : Value} {vs : List Value} {pss : List (List Pt)} (h : RowsAt w B vr vs pss) (hf : Frm w.heap.size X w w') (hx : ∀ k, B ≤ k → k < w.heap.size → ¬ X k) : RowsAt w' B vr vs pss :=
  ⟨ownsRow_frm h.own hf (fun k hk => ⟨(h.own.lt k hk).2, hx k (h.own.lt k hk).1 (h.own.lt k hk).2⟩), h.len,
   fun i v ps h1 h2 => ownsRow_frm (h.row i v ps h1 h2) hf (fun k hk => ⟨((h.row i v ps h1 h2).lt k hk).2, hx k ((h.row i v ps h1 h2).lt k hk).1 ((h.row i v ps h1 h2).lt k hk).2⟩), h.bd⟩
theorem RowsAt.kept {w w' : World} {B : Nat} {vr : Value} {vs : List Value} {pss : List (List Pt)} (h : RowsAt w B vr vs pss) (hb : Below w.heap.size w w') : RowsAt w' B vr vs pss :=
  h.frm (X := fun _ => False) hb.frm (fun _ _ _ h => h)
/-- One row more. -/
theorem RowsAt.snoc {W w5 : World} {B : Nat} {vr vr' v2 : Value} {vs : List Value} {pss : List (List Pt)} {ps2 : List Pt} (h : RowsAt W B vr vs pss) (o : Obj)
    (hv : W.ownsRow B 146 2 v2 ps2.length (cellsP ps2)) (hown : w5.ownsRow B 118 1 vr' (vs.length + 1) (vs ++ [v2])) (hgr : (W.alloc o).grownBy w5 vr.ownBlock) (hbd : ps2.length ≤ 200) : RowsAt w5 B vr' (vs ++ [v2]) (pss ++ [ps2]) := by
  refine ⟨by simpa using hown, by simp [h.len], ?_, by intro q hq; simp at hq; rcases hq with hq | rfl; exact h.bd q hq; exact hbd⟩
  intro i v ps h1 h2
  by_cases hi : i < vs.length
  · rw [List.getElem?_append_left hi] at h1
    rw [List.getElem?_append_left (by rw [← h.len]; exact hi)] at h2
    exact ((h.row i v ps h1 h2).alloc o).kept hgr (own_apart (h.row i v ps h1 h2) h.own (by decide))
  · rw [List.getElem?_append_right (by omega)] at h1
    rw [List.getElem?_append_right (by rw [← h.len]; omega)] at h2
    rw [← h.len] at h2
    match hk : i - vs.length, h1, h2 with
    | 0, h1, h2 =>
      simp at h1 h2
      subst h1 h2
      exact (hv.alloc o).kept hgr (own_apart hv h.own (by decide))
    | k + 1, h1, h2 => simp at h1

/-- A call of the reader that knows the last row's parts alone. -/
theorem RowsAt.reader {w w' : World} {B b : Nat} {vr v2 : Value} {vs : List Value} {pss : List (List Pt)} {ps2 : List Pt} (h : RowsAt w B vr (vs ++ [v2]) (pss ++ [ps2])) (hl : vs.length = pss.length) (hb : b < B)
    (hne : ∀ (i : Nat) v k, vs[i]? = some v → v.ownBlock = some k → some k ≠ v2.ownBlock) (hf : Frm w.heap.size (XR b v2) w w') (hv : w'.ownsRow B 146 2 v2 ps2.length (cellsP ps2)) : RowsAt w' B vr (vs ++ [v2]) (pss ++ [ps2]) := by
  have hv0 := h.row vs.length v2 ps2 (by simp) (by rw [hl]; simp)
  refine ⟨ownsRow_frm h.own hf (fun k hk => ⟨(h.own.lt k hk).2, ?_⟩), h.len, ?_, h.bd⟩
  · rintro (e | e)
    · have := (h.own.lt k hk).1; omega
    · rcases own_apart hv0 h.own (by decide) with h1 | h1
      · rw [h1] at e; cases e
      · exact h1 (e.symm.trans hk.symm)
  · intro i v ps h1 h2
    have h0 := h.row i v ps h1 h2
    by_cases hi : i < vs.length
    · rw [List.getElem?_append_left hi] at h1
      refine ownsRow_frm h0 hf (fun k hk => ⟨(h0.lt k hk).2, ?_⟩)
      rintro (e | e)
      · have := (h0.lt k hk).1; omega
      · exact hne i v k h1 hk e
    · rw [List.getElem?_append_right (by omega)] at h1
      rw [List.getElem?_append_right (by rw [← hl]; omega)] at h2
      rw [← hl] at h2
      match hk : i - vs.length, h1, h2 with
      | 0, h1, h2 =>
        simp at h1 h2
        subst h1 h2
        exact hv
      | k + 1, h1, h2 => simp at h1

theorem RdR.clear {b : Nat} {t : ByteArray} {v v' : Value} {w w1 : World} {a : Nat} {ps : List Pt} (h : RdR b t v w w1 a v' ps) : RdR b t v w (w1.setCell ⟨b, 2, none⟩ (.slice none 0 0)) a (.slice none 0 0) [] := by
  refine h.trans ⟨⟨?_, World.ownsRow_nil _ _ _ _, h.rd.le, Nat.zero_le _, h.rd.sz⟩, (Frm.refl _ _ _).setCell (.inr (.inl rfl)) _, .inr (fun k hk => by simp [Value.ownBlock] at hk)⟩
  have := h.rd.blk.set 2 (.slice none 0 0)
  simpa using this

/-- Where the loop over the rows stands. -/
def RLoop (l : List UInt8) (more : Bool) (l' : List UInt8) (pss : List (List Pt)) : Prop :=
  (more = true → ∃ rows, RowSt l l' rows pss) ∧ (more = false → ∃ l1 rows pss0 ps, RowSt l l1 rows pss0 ∧ Exp l1 true l' ps ∧ ¬ hd l' = 59 ∧ pss = pss0 ++ [ps])

set_option maxRecDepth 100000 in
set_option maxHeartbeats 4000000 in
theorem rows_any (b : Nat) (t : ByteArray) (p : Nat) (v : Value) (ps : List Pt) (w : World) (h : Rd w b t p v ps) :
    Calls Tryz.prog 72 #[.pointer (some ⟨b, 0, none⟩)] w fun e w' => ∃ ok vr p' v' ps' rows pss, e = .returned (.tuple #[vr, .bool ok]) ∧ RowEnd ((L t).drop p) ok ((L t).drop p') rows pss ∧
      (ok = true → ∃ vs, RowsAt w' w.heap.size vr vs pss) ∧ (ok = false → vr = .slice none 0 0) ∧ p ≤ p' ∧ RdR b t v w w' p' v' ps' := by
  obtain ⟨ii, hi, hz0, hz1, hz2⟩ := info_parts info_row
  have hsz := h.sz
  have Hfr := hide h.fresh
  have hbw := h.blk.lt
  have H := hide h
  clear h
  go_enter Tryz.func72, Tryz.ntmps72
  go_wp2_with fail
  go_loopg [4, 5] (2 * (t.size - p) + 1) (fun m vr mo wr => ∃ k, ∃ more : Bool, ∃ v1 ps1 vs pss, p ≤ k ∧ k ≤ t.size ∧ m = 2 * (t.size - k) + (if more then 1 else 0) ∧ mo = .bool more ∧ vs.length ≤ k ∧ Hid (RLoop ((L t).drop p) more ((L t).drop k) pss) ∧
      Hid (RowsAt wr w.heap.size vr vs pss) ∧ Hid (RdR b t v w wr k v1 ps1))
  case atStart => exact ⟨p, true, v, ps, [], [], Nat.le_refl _, (unhide H).le, rfl, rfl, Nat.zero_le _, ⟨fun _ => ⟨[], RowSt.start _⟩, (fun h0 => by cases h0)⟩, RowsAt.nil _ _, RdR.refl (unhide H)⟩
  case round =>
    obtain ⟨k, more, v1, ps1, vs, pss, hpk, hk, rfl, rfl, hpl, Hl, Ho, Hr⟩ := hrel
    have hwr := (unhide Hr).frm.size
    obtain ⟨aop, capp, hvp⟩ := ownsRow_form (unhide Ho).own
    subst hvp
    have c2 := (unhide Hr).rd.c2
    have z2 := (unhide Hr).rd.z2
    cases more with
    | true =>
      have Hrc := hide (unhide Hr).clear
      have Hoc : Hid (RowsAt (wr.setCell ⟨b, 2, none⟩ (.slice none 0 0)) w.heap.size (.slice aop vs.length capp) vs pss) :=
        (unhide Ho).frm (X := fun j => j = b) (Frm.setCell (X := fun j => j = b) (Frm.refl _ _ _) (p := ⟨b, 2, none⟩) (.inr rfl) _) (fun j hj _ e => by omega)
      go_wp2_with fail
      refine (expression_any b t k (.slice none 0 0) [] _ (unhide Hrc).rd).mono ?_
      rintro e w1 ⟨ok, k1, v2, ps2, rfl, hexp, hle, hr1⟩
      rw [List.nil_append] at hr1
      have Hr1 := hide hr1
      have H1 := hide ((unhide Hrc).trans hr1)
      have Ho1 := hide ((unhide Hoc).frm hr1.frm (fun j hj _ hx => by rcases hx with hx | hx; omega; simp [Value.ownBlock] at hx))
      have hk1 := hr1.rd.le
      have Hexp := hide hexp
      clear hr1 hexp
      cases ok with
      | false =>
        go_wp2_with fail
        go_ret2
        obtain ⟨rows, hst⟩ := (unhide Hl).1 rfl
        exact ⟨false, _, k1, v2, ps2, [], [], rfl, hst.no (unhide Hexp) [] [], (fun h0 => by cases h0), fun _ => rfl, by omega, unhide H1⟩
      | true =>
        have Hv2 : Hid (w1.ownsRow w.heap.size 146 2 v2 ps2.length (cellsP ps2)) := by
          refine ownsRow_base (unhide Hr1).rd.own (fun j hj => ?_)
          rcases (unhide Hr1).own with e | e
          · rw [e] at hj; simp [Value.ownBlock] at hj
          · have := e j hj; simp [World.setCell] at this; omega
        have Hne : Hid (∀ (i : Nat) x j, vs[i]? = some x → x.ownBlock = some j → some j ≠ v2.ownBlock) := by
          intro i x j hx hj e
          obtain ⟨q, hq⟩ : ∃ q, pss[i]? = some q := by
            have := (List.getElem?_eq_some_iff.1 hx).1
            exact ⟨pss[i]'(by rw [← (unhide Ho).len]; exact this), List.getElem?_eq_getElem _⟩
          have h1 := (((unhide Hoc).row i x q hx hq).lt j hj).2
          rcases (unhide Hr1).own with e2 | e2
          · rw [e2] at e; simp [Value.ownBlock] at e
          · have := e2 j e.symm; omega
        obtain ⟨ao2, cap2, hv2⟩ := ownsRow_form (unhide Hv2)
        subst hv2
        have d2 := (unhide Hr1).rd.c2
        have hsz1 := (unhide H1).frm.size
        have hlt : k < k1 := by
          obtain ⟨x, hx, g1, _⟩ := unhide Hexp
          have hs := (g1 rfl).2.1
          have hl := congrArg List.length hx
          simp only [List.length_append, List.length_drop, L_length] at hl
          have hn : 0 < x.length := Nat.lt_of_lt_of_le hs.pos (bare_le x)
          omega
        clear c2 z2
        go_wp2_with (first
          | (at_builtin; refine wpList_append_own _ rfl (.tmp 15) (.tmp 21) 67 rfl w.heap.size 118 ii (.agg #[.slice none 0 0]) 1 24 Tryz.underlying67 hi hz0 hz1 hz2 rfl (by decide) (.slice aop vs.length capp) vs.length _ rfl ((unhide Ho1).own.alloc _) ⟨w1.heap.size, 0, none⟩ 1 1 [.slice ao2 ps2.length cap2] rfl rfl (cell_one_new _ _ _) (fun x hx => by simp at hx; subst hx; rfl) (by unfold maxLen; omega) (by omega) (by simp; omega) ?_; intro vr' w5 hown5 hgr5 _; obtain ⟨gf, cf, rfl, hgf, hgf'⟩ := ownsRow_some hown5 (Nat.succ_pos _)))
        have Ho5 := hide ((unhide Ho1).snoc _ (unhide Hv2) hown5 hgr5 (by omega))
        have H5 := hide (((unhide H1).alloc _).grown hgr5 (fun j hj => ⟨((unhide Ho1).own.lt j hj).1, by
          rintro (e | e)
          · have := ((unhide Ho1).own.lt j hj).1; omega
          · rcases own_apart (unhide Hv2) (unhide Ho1).own (by decide) with h1 | h1
            · rw [h1] at e; cases e
            · exact h1 (e.symm.trans hj.symm)⟩))
        clear hown5 hgr5
        go_wp2_with fail
        refine (accept_any b t k1 _ ps2 59 _ (unhide H5).rd (by omega)).mono ?_
        rintro e w6 ⟨k2, x2, hs2, ⟨hn2, rfl, hr2⟩ | ⟨y2, hy2, hl2, rfl, hr2⟩⟩
        · have Heq := hide (skp_same hs2 (got_H (unhide Hexp)).1)
          have H6 := hide ((unhide H5).trans hr2)
          have Ho6 := hide ((unhide Ho5).reader (unhide Ho).len hbw (unhide Hne) hr2.frm (ownsRow_base hr2.rd.own (fun j hj => ((unhide Hv2).lt j hj).1)))
          have hk2 := hr2.rd.le
          have hle2 := hs2.le
          have Hn2 := hide hn2
          clear hs2 hn2 hr2
          go_wp2_with fail
          go_roundg (2 * (t.size - k2) + 0)
          case measure => simp; omega
          case rel =>
            refine ⟨k2, false, _, _, _, _, by omega, hk2, by simp, rfl, ?_, ⟨(fun h0 => by cases h0), fun _ => ?_⟩, unhide Ho6, unhide H6⟩
            · simp; omega
            · obtain ⟨rows, hst⟩ := (unhide Hl).1 rfl
              exact ⟨_, rows, pss, ps2, hst, by rw [← unhide Heq]; exact unhide Hexp, unhide Hn2, rfl⟩
        · have hnb := (got_H (unhide Hexp)).1
          have Heq := hide (skp_same hs2 hnb)
          have H6 := hide ((unhide H5).trans hr2)
          have Ho6 := hide ((unhide Ho5).reader (unhide Ho).len hbw (unhide Hne) hr2.frm (ownsRow_base hr2.rd.own (fun j hj => ((unhide Hv2).lt j hj).1)))
          have hk2 := hr2.rd.le
          have hle2 := hs2.le
          have Hy2 := hide hy2
          have Hl2 := hide hl2
          clear hs2 hy2 hl2 hr2 hnb
          go_wp2_with fail
          go_roundg (2 * (t.size - (k2 + 1)) + 1)
          case measure => simp; omega
          case rel =>
            refine ⟨k2 + 1, true, _, _, _, _, by omega, hk2, by simp, rfl, ?_, ⟨fun _ => ?_, (fun h0 => by cases h0)⟩, unhide Ho6, unhide H6⟩
            · simp; omega
            · obtain ⟨rows, hst⟩ := (unhide Hl).1 rfl
              obtain ⟨e, he⟩ := hst.semi (by rw [← unhide Hl2, ← unhide Heq]; exact unhide Hexp) (unhide Hy2)
              exact ⟨_, he⟩
    | false =>
      obtain ⟨l1, rows, pss0, ps0, hst, hexp, h59, rfl⟩ := (unhide Hl).2 rfl
      have Hst := hide hst
      have Hexp := hide hexp
      have H59 := hide h59
      have c0 := (unhide Hr).rd.c0
      have c1 := (unhide Hr).rd.c1
      clear hst hexp h59 c2 z2
      by_cases hlt : k < t.size
      · have d1 : decide ((k : Int) < (t.size : Int)) = true := by simp; omega
        go_wp2_with fail
        go_quiet (fail)
        go_wp2_with fail
        go_ret2
        exact ⟨false, _, k, v1, ps1, [], [], rfl, (unhide Hst).fin_no (unhide Hexp) (unhide H59) (by rw [L_drop t k hlt]; simp) [] [], (fun h0 => by cases h0), fun _ => rfl, hpk, (unhide Hr).draws _⟩
      · have d1 : decide ((k : Int) < (t.size : Int)) = false := by simp; omega
        have Hz := hide (L_drop_end t k (by omega))
        go_wp2_with fail
        go_quiet (fail)
        go_wp2_with fail
        go_ret2
        obtain ⟨e, he⟩ := (unhide Hst).fin_yes (by rw [← unhide Hz]; exact unhide Hexp)
        refine ⟨true, .slice aop vs.length capp, k, v1, ps1, rows ++ [e], pss0 ++ [ps0], rfl, by rw [unhide Hz]; exact he, fun _ => ⟨vs, ?_⟩, (fun h0 => by cases h0), hpk, (unhide Hr).draws _⟩
        exact ⟨(unhide Ho).own, (unhide Ho).len, (unhide Ho).row, (unhide Ho).bd⟩

end Go.Proofs.YtdchbenfccofpabGreatDoor
namespace Db

theorem rowOk_of {e : List UInt8} {ps : List Pt} (h : ExpS e ps) (hl : e.length ≤ 200) : RowOk e ps := by
  refine ⟨h.wf, ?_, ?_, ?_, hl, h.num⟩
  · have := h.old [] trivial
    simpa using this
  · intro row
    have := h.rch row []
    simpa [rch] using this
  · intro q
    have := h.sel q [] (by rfl)
    simpa [strg] using this
theorem form_of {l l1 : List UInt8} {pd : List (List UInt8 × List UInt8)} {rows : List (List UInt8)} {pss : List (List Pt)} {l2 : List UInt8} (hl : l.length ≤ 200) (hp : PerEnd l true l1 pd) (hr : RowEnd l1 true l2 rows pss) : Form l pd rows pss := by
  obtain ⟨⟨x, rfl, h1, _⟩, hd⟩ := hp
  obtain ⟨h2, y, h3, h4, h5⟩ := h1 rfl
  obtain ⟨g1, g2, g3, g4⟩ := hr.yes rfl
  refine ⟨?_, ⟨⟨y, bare l1, ?_, h4, g2⟩, hd rfl⟩, g4.1, ?_⟩
  · rw [h2, g1]
  · rw [bare_append, h3, List.append_assoc, List.cons_append, List.nil_append]
    exact split_two 124 y (bare l1) (fun c hc e => h5 c hc (by rw [e]; rfl)) (fun c hc e => g3 c hc (by rw [e]; rfl))
  · intro i e ps he hps
    refine rowOk_of (g4.2 i e ps he hps) ?_
    have hm : e ∈ split (bare l1) 59 := by rw [g2]; exact List.mem_of_getElem? he
    have h6 := split_le (bare l1) 59 e hm
    have h7 := bare_le l1
    simp at hl
    omega

end Db
namespace Go.Proofs.YtdchbenfccofpabGreatDoor
open Go.RowKit Db

theorem RowsAt.base {w : World} {B B' : Nat} {vr : Value} {vs : List Value} {pss : List (List Pt)} (h : RowsAt w B vr vs pss) (hB : B' ≤ B) : RowsAt w B' vr vs pss :=
  ⟨ownsRow_base h.own (fun k hk => Nat.le_trans hB (h.own.lt k hk).1), h.len, fun i v ps h1 h2 => ownsRow_base (h.row i v ps h1 h2) (fun k hk => Nat.le_trans hB ((h.row i v ps h1 h2).lt k hk).1), h.bd⟩
theorem fail_place {t : ByteArray} {p p' : Nat} {x : List UInt8} (h : (L t).drop p = x ++ (L t).drop p') (hp : p ≤ p') (hp' : p' ≤ t.size) : (p : Int) + x.length = p' := by
  have hl := congrArg List.length h
  simp only [List.length_append, List.length_drop, L_length] at hl
  omega

/-- What readForm answers. -/
def FormR (w : World) (t : ByteArray) (e : Ending) (w' : World) : Prop :=
  (∃ p : Int, e = .returned (.tuple #[.agg #[.slice none 0 0, .slice none 0 0], .int .i64 p, .bool false]) ∧ plc 0 0 0 0 (L t) = p ∧ 0 ≤ p ∧ Below w.heap.size w w') ∨
  (∃ vp vr pd rows pss vs, e = .returned (.tuple #[.agg #[vp, vr], .int .i64 0, .bool true]) ∧ Db.Form (L t) pd rows pss ∧ w'.ownsRow w.heap.size 114 2 vp pd.length (cellsD pd) ∧ RowsAt w' w.heap.size vr vs pss ∧ Below w.heap.size w w')

set_option maxRecDepth 100000 in
set_option maxHeartbeats 4000000 in
theorem readForm_any (t : ByteArray) (w : World) (hsz : t.size ≤ 200) :
    Calls Tryz.prog 53 #[.string t] w fun e w' => FormR w t e w' := by
  have H0 : Hid (Rd ((w.alloc (.cells #[.slice none 0 0, .slice none 0 0] 69)).alloc (.cells #[.string t, .int .i64 0, .slice none 0 0] 140)) (w.heap.size + 1) t 0 (.slice none 0 0) []) := by
    refine ⟨?_, World.ownsRow_nil _ _ _ _, Nat.zero_le _, Nat.zero_le _, hsz⟩
    have := Blk.new (w.alloc (.cells #[.slice none 0 0, .slice none 0 0] 69)) #[.string t, .int .i64 0, .slice none 0 0] 140
    simpa using this
  go_enter Tryz.func53, Tryz.ntmps53
  go_wp2_with fail
  refine (periods_any (w.heap.size + 1) t 0 (.slice none 0 0) [] _ (unhide H0)).mono ?_
  rintro e w1 ⟨ok, vp, p1, pd, rfl, hpe, hvp, hnp, hle1, hr1⟩
  have hs1 := hr1.frm.size
  simp at hs1
  have HB1 : Hid (Blk w1 w.heap.size #[.slice none 0 0, .slice none 0 0] 69) := ((Blk.new _ _ _).alloc _).frm hr1.frm (by simp; omega) (by rintro (h | h); omega; simp [Value.ownBlock] at h)
  have Hb1 : Hid (Below w.heap.size w w1) := (((Below.refl _ _).alloc (Nat.le_refl _) _).alloc (by simp) _).trans (hr1.frm.below (by simp; omega) (fun k hk => by rintro (h | h); omega; simp [Value.ownBlock] at h))
  have Hr1 := hide hr1
  have Hpe := hide hpe
  have c0 := (unhide HB1).cell 0
  have c1 := (unhide HB1).cell 1
  have z0 := (unhide HB1).frozen 0
  have z1 := (unhide HB1).frozen 1
  have d1 := hr1.rd.c1
  have hpz := hr1.rd.le
  simp only [List.getElem?_toArray, List.getElem?_cons_zero, List.getElem?_cons_succ] at c0 c1
  clear hr1 hpe
  cases ok with
  | false =>
    obtain rfl := hnp rfl
    clear hvp hnp
    go_wp2_with fail
    go_region
    go_wp2_with fail
    refine bodyPost_ret (v := .tuple #[.agg #[.slice none 0 0, .slice none 0 0], .int .i64 p1, .bool false]) (by simp [results, Tryz.results53, go_sem, c0, c1]) rfl (.inl ⟨p1, rfl, ?_, by omega, ?_⟩)
    · obtain ⟨⟨x, hx, _, h2⟩, _⟩ := unhide Hpe
      have h3 := h2 rfl 0
      have h4 := fail_place hx hle1 hpz
      rw [List.drop_zero] at h3
      rw [h3]
      simpa using h4
    · exact (((unhide Hb1).drew).setCell (by simp) _).setCell (by simp) _
  | true =>
    have hvp := hvp rfl
    obtain ⟨aop, capp, rfl⟩ := ownsRow_form hvp
    have Hvp := hide hvp
    clear hvp hnp
    go_wp2_with fail
    refine (rows_any (w.heap.size + 1) t p1 (.slice none 0 0) [] _ (unhide Hr1).rd).mono ?_
    rintro e w2 ⟨ok, vr, p2, v2, ps2, rows, pss, rfl, hre, hvr, hnr, hle2, hr2⟩
    have hs2 := hr2.frm.size
    have HB2 : Hid (Blk w2 w.heap.size #[.slice none 0 0, .slice none 0 0] 69) := (unhide HB1).frm hr2.frm (by omega) (by rintro (h | h); omega; simp [Value.ownBlock] at h)
    have Hb2 : Hid (Below w.heap.size w w2) := (unhide Hb1).trans (hr2.frm.below (by omega) (fun k hk => by rintro (h | h); omega; simp [Value.ownBlock] at h))
    have Hvp2 : Hid (w2.ownsRow w.heap.size 114 2 (.slice aop pd.length capp) pd.length (cellsD pd)) := by
      have hb : ∀ k, (Value.slice aop pd.length capp).ownBlock = some k → w.heap.size + 2 ≤ k ∧ k < w1.heap.size := fun k hk => by
        have := (unhide Hvp).lt k hk; simp at this; omega
      exact ownsRow_base (ownsRow_frm (unhide Hvp) hr2.frm (fun k hk => ⟨(hb k hk).2, by rintro (h | h); have := hb k hk; omega; simp [Value.ownBlock] at h⟩)) (fun k hk => by have := hb k hk; omega)
    have Hre := hide hre
    have e0 := (unhide HB2).cell 0
    have e1 := (unhide HB2).cell 1
    have y0 := (unhide HB2).frozen 0
    have y1 := (unhide HB2).frozen 1
    have d2 := hr2.rd.c1
    have hpz2 := hr2.rd.le
    simp only [List.getElem?_toArray, List.getElem?_cons_zero, List.getElem?_cons_succ] at e0 e1
    clear hr2 hre c0 c1 z0 z1 d1
    cases ok with
    | false =>
      obtain rfl := hnr rfl
      clear hvr hnr
      go_wp2_with fail
      go_region
      go_wp2_with fail
      refine bodyPost_ret (v := .tuple #[.agg #[.slice none 0 0, .slice none 0 0], .int .i64 p2, .bool false]) (by simp [results, Tryz.results53, go_sem, e0, e1]) rfl (.inl ⟨p2, rfl, ?_, by omega, ?_⟩)
      · obtain ⟨⟨x, hx, h2, _⟩, _⟩ := unhide Hpe
        obtain ⟨y, hy, h5⟩ := (unhide Hre).no rfl
        have h3 := (h2 rfl).1 0
        have h4 := fail_place hx hle1 hpz
        have h6 := fail_place hy hle2 hpz2
        rw [List.drop_zero] at h3
        rw [h3, h5]
        simp at h4 ⊢
        omega
      · exact (((unhide Hb2).drew).setCell (by simp) _).setCell (by simp) _
    | true =>
      obtain ⟨vs, hvs⟩ := hvr rfl
      obtain ⟨aor, capr, rfl⟩ := ownsRow_form hvs.own
      have Hvs := hide hvs
      clear hvr hnr hvs
      go_wp2_with fail
      refine bodyPost_ret (v := .tuple #[.agg #[.slice aop pd.length capp, .slice aor vs.length capr], .int .i64 0, .bool true]) (by simp [results, Tryz.results53, go_sem, e0, e1]) rfl (.inr ⟨_, _, pd, rows, pss, vs, rfl, ?_, ?_, ?_, ?_⟩)
      · refine form_of (by rw [L_length]; exact hsz) (l1 := (L t).drop p1) (l2 := (L t).drop p2) ?_ (unhide Hre)
        have := unhide Hpe
        rwa [List.drop_zero] at this
      · exact ownsRow_setOther (ownsRow_setOther (unhide Hvp2) (fun e => by have := (unhide Hvp).lt _ e.symm; simp at this; omega) _) (fun e => by have := (unhide Hvp).lt _ e.symm; simp at this; omega) _
      · refine RowsAt.base ((unhide Hvs).frm (X := fun k => k = w.heap.size) (Frm.setCell (X := fun k => k = w.heap.size) (Frm.setCell (X := fun k => k = w.heap.size) (Frm.refl _ _ _) (p := ⟨w.heap.size, 0, none⟩) (.inr rfl) _) (p := ⟨w.heap.size, 1, none⟩) (.inr rfl) _) (fun k hk _ h => by omega)) (by omega)
      · exact ((unhide Hb2).setCell (by simp) _).setCell (by simp) _

end Go.Proofs.YtdchbenfccofpabGreatDoor
namespace Go.Proofs.YtdchbenfccofpabGreatDoor
open Go.RowKit Db

end Go.Proofs.YtdchbenfccofpabGreatDoor
namespace Go.Proofs.YtdchbenfccofpabGreatDoor
open Go.RowKit Db

theorem ret_int {k : IntKind} {a b : Int} (h : a = b) : Ending.returned (.int k a) = .returned (.int k b) := by rw [h]

theorem bare_yes (s u : ByteArray) (k : Nat) (h : k < s.size) (hb : ¬ s[k].toNat = 32) (hu : L u = bare ((L s).take k)) :
    L (u ++ s.extract k (k + 1)) = bare ((L s).take (k + 1)) := by
  rw [L_append, L_one s k h, L_take_succ s k h, bare_append, bare_other hb, hu]
theorem bare_no (s u : ByteArray) (k : Nat) (h : k < s.size) (hb : s[k].toNat = 32) (hu : L u = bare ((L s).take k)) :
    L u = bare ((L s).take (k + 1)) := by
  rw [L_take_succ s k h, bare_append, bare_blank hb, hu, List.append_nil]
theorem bare_size (s u : ByteArray) (k : Nat) (hu : L u = bare ((L s).take k)) : u.size ≤ k := by
  rw [← L_length, hu]; exact Nat.le_trans (bare_le _) (List.length_take_le _ _)

theorem val_step (s : ByteArray) (k : Nat) (h : k < s.size) (n : Int) : valGo n ((L s).drop k) = valGo (10 * n + ((s[k].toNat : Int) - 48)) ((L s).drop (k + 1)) := by
  rw [L_drop s k h]; rfl
def pow10 (k : Nat) : Int := 10 ^ k
theorem pow10_succ (k : Nat) : pow10 (k + 1) = 10 * pow10 k := by unfold pow10; rw [Int.pow_succ]; omega
theorem pow10_pos (k : Nat) : 1 ≤ pow10 k := by
  induction k with
  | zero => decide
  | succ k ih => rw [pow10_succ]; omega
theorem pow10_le (k : Nat) (h : k ≤ 17) : pow10 k ≤ 100000000000000000 := by
  have : pow10 17 = 100000000000000000 := by decide
  have key : ∀ d j : Nat, j + d = 17 → pow10 j ≤ pow10 17 := by
    intro d
    induction d with
    | zero => intro j hj; rw [show j = 17 by omega]; exact Int.le_refl _
    | succ d ih => intro j hj; have := ih (j + 1) (by omega); rw [pow10_succ] at this; have := pow10_pos j; omega
  have := key (17 - k) k (by omega)
  omega

theorem split_step (s : ByteArray) (c : UInt8) (acc : List (List UInt8)) (f k : Nat) (hf : f ≤ k) (h : k < s.size) (hb : ¬ s[k] = c) :
    splitGo c acc (L (s.extract f k)) ((L s).drop k) = splitGo c acc (L (s.extract f (k + 1))) ((L s).drop (k + 1)) := by
  rw [L_drop s k h]
  show (if s[k] = c then _ else _) = _
  rw [if_neg hb]
  congr 1
  rw [L_extract, L_extract, show k + 1 - f = (k - f) + 1 by omega, List.take_succ_eq_append_getElem (by rw [List.length_drop, L_length]; omega)]
  congr 2
  rw [List.getElem_drop]
  simp only [show f + (k - f) = k by omega]
  exact (L_get s k h).symm
theorem split_cut (s : ByteArray) (c : UInt8) (acc : List (List UInt8)) (f k : Nat) (h : k < s.size) (hb : s[k] = c) :
    splitGo c acc (L (s.extract f k)) ((L s).drop k) = splitGo c (acc ++ [L (s.extract f k)]) (L (s.extract (k + 1) (k + 1))) ((L s).drop (k + 1)) := by
  rw [L_drop s k h]
  show (if s[k] = c then _ else _) = _
  rw [if_pos hb, L_extract s (k + 1) (k + 1), Nat.sub_self, List.take_zero]

theorem info_string : (Tryz.prog.info? 9).map (fun i => (i.zero, i.size, i.bytes)) = some (some (.string ⟨#[]⟩), 1, 16) := by kernel_rfl

end Go.Proofs.YtdchbenfccofpabGreatDoor
namespace Go.Proofs.YtdchbenfccofpabGreatDoor
open Go.RowKit Db

/-- The byte ahead of place i. -/
def prv (s : ByteArray) (i : Nat) : Int := if h : 0 < i ∧ i - 1 < s.size then ((s[i - 1]'h.2).toNat : Int) else -1
theorem prv_zero (s : ByteArray) : prv s 0 = -1 := by simp [prv]
theorem prv_succ (s : ByteArray) (i : Nat) (h : i < s.size) : prv s (i + 1) = (s[i].toNat : Int) := by simp [prv, h]

theorem fin_step (s : ByteArray) (a b : Int) (j : Nat) (h : j < s.size) (k at_ : Int) :
    finGo a b (prv s j) k at_ j ((L s).drop j) = finGo a b (prv s (j + 1)) (dep k (s[j].toNat : Int)) (hit a b (prv s j) (dep k (s[j].toNat : Int)) at_ j (s[j].toNat : Int)) ((j + 1 : Nat) : Int) ((L s).drop (j + 1)) := by
  rw [L_drop s j h, prv_succ s j h]; rfl
theorem bin_not (p c : Int) (h : c = 40 ∨ c = 41) : binB p c = false := by rcases h with rfl | rfl <;> simp [binB, opB]
theorem hit_not (a b p k at_ i c : Int) (h : binB p c = false) : hit a b p k at_ i c = at_ := by simp [hit, h]
theorem hit_deep (a b p k at_ i c : Int) (h : (k == 0) = false) : hit a b p k at_ i c = at_ := by simp [hit, h]
theorem hit_other (a b p k at_ i c : Int) (h : (c == a) = false) (h2 : (c == b) = false) : hit a b p k at_ i c = at_ := by simp [hit, h, h2]
theorem hit_yes (a b p k at_ i c : Int) (h : binB p c = true) (h1 : (k == 0) = true) (h2 : (c == a) = true ∨ (c == b) = true) : hit a b p k at_ i c = i := by
  simp only [hit, h, h1]; rcases h2 with h2 | h2 <;> simp [h2]
theorem dep_open (k c : Int) (h : (c == 40) = true) : dep k c = k + 1 := by simp only [dep, h]; rfl
theorem dep_shut (k c : Int) (h0 : (c == 40) = false) (h : (c == 41) = true) : dep k c = k - 1 := by simp only [dep, h0, h]; rfl
theorem dep_else (k c : Int) (h0 : (c == 40) = false) (h : (c == 41) = false) : dep k c = k := by simp only [dep, h0, h]; rfl

/-- What a cut gives, as values. -/
def CutV (s : ByteArray) (o : Int) (l r : ByteArray) : Prop := (cut (L s)).1 = o ∧ L l = (cut (L s)).2.1 ∧ L r = (cut (L s)).2.2
theorem L_getD (s : ByteArray) (k : Nat) (h : k < s.size) : (L s).getD k 0 = s[k] := by
  rw [List.getD_eq_getElem?_getD, L_get? s k h]; rfl
theorem L_getD0 (s : ByteArray) (h : 0 < s.size) : (L s).getD 0 0 = s[0] := L_getD s 0 h
theorem cutV_at (s : ByteArray) (i : Nat) (h0 : 0 < i) (h : i < s.size) (hc : cutAt (L s) = (i : Int)) : CutV s (s[i].toNat : Int) (s.extract 0 i) (s.extract (i + 1) s.size) := by
  unfold CutV cut
  rw [if_pos (by rw [hc]; omega)]
  refine ⟨?_, ?_, ?_⟩
  · simp only [hc, Int.toNat_natCast]; rw [L_getD s i h]
  · simp only [hc, Int.toNat_natCast]; rw [L_extract]; simp
  · simp only [hc, Int.toNat_natCast]; rw [L_extract]; exact List.take_of_length_le (by rw [List.length_drop, L_length]; omega)
theorem cutV_neg (s : ByteArray) (hn : cutAt (L s) ≤ 0) (h : 1 < s.size) (hc : (s[0].toNat : Int) = 45) : CutV s 126 ⟨#[]⟩ (s.extract 1 s.size) := by
  unfold CutV cut
  rw [if_neg (Int.not_lt.2 hn), if_pos ⟨by rw [L_length]; exact h, by rw [L_getD0 s (by omega)]; exact hc⟩]
  refine ⟨rfl, rfl, ?_⟩
  rw [L_extract]; exact List.take_of_length_le (by rw [List.length_drop, L_length]; omega)
theorem cutV_par (s : ByteArray) (hn : cutAt (L s) ≤ 0) (h : 2 < s.size) (hc : (s[0].toNat : Int) = 40) : CutV s 40 ⟨#[]⟩ (s.extract 1 (s.size - 1)) := by
  unfold CutV cut
  rw [if_neg (Int.not_lt.2 hn), if_neg (by rintro ⟨_, h2⟩; rw [L_getD0 s (by omega)] at h2; omega), if_pos ⟨by rw [L_length]; exact h, by rw [L_getD0 s (by omega)]; exact hc⟩]
  refine ⟨rfl, rfl, ?_⟩
  rw [L_extract, L_length, show s.size - 1 - 1 = s.size - 2 by omega]
theorem cutV_not (s : ByteArray) (hn : cutAt (L s) ≤ 0) (h1 : ¬ (1 < (L s).length ∧ (((L s).getD 0 0).toNat : Int) = 45)) (h2 : ¬ (2 < (L s).length ∧ (((L s).getD 0 0).toNat : Int) = 40)) : CutV s 0 ⟨#[]⟩ s := by
  unfold CutV cut
  rw [if_neg (Int.not_lt.2 hn), if_neg h1, if_neg h2]
  exact ⟨rfl, rfl, rfl⟩

theorem cutV_not' (s : ByteArray) (hn : cutAt (L s) ≤ 0) (h1 : ¬ (1 < s.size ∧ ∃ h : 0 < s.size, (s[0].toNat : Int) = 45)) (h2 : ¬ (2 < s.size ∧ ∃ h : 0 < s.size, (s[0].toNat : Int) = 40)) : CutV s 0 ⟨#[]⟩ s := by
  refine cutV_not s hn ?_ ?_
  · rintro ⟨ha, hb⟩
    rw [L_length] at ha
    rw [L_getD0 s (by omega)] at hb
    exact h1 ⟨ha, by omega, hb⟩
  · rintro ⟨ha, hb⟩
    rw [L_length] at ha
    rw [L_getD0 s (by omega)] at hb
    exact h2 ⟨ha, by omega, hb⟩

end Go.Proofs.YtdchbenfccofpabGreatDoor
namespace Go.Proofs.YtdchbenfccofpabGreatDoor
open Go.RowKit Db

/-- What a step of a spot answers. -/
def SpotR (r : Option (Int × Int × Int)) (e : Ending) : Prop :=
  ∃ a d o : Int, ∃ ok : Bool, e = .returned (.tuple #[.agg #[.int .i64 a, .int .i64 d, .int .i64 o], .bool ok]) ∧ r = if ok then some (a, d, o) else none

theorem beq_false_of {a b : Int} (h : ¬ a = b) : (a == b) = false := by simpa using h
theorem dig_ne {c : Int} (h : digB c = true) (b : Int) (hb : digB b = false) : (c == b) = false := by
  rw [beq_eq_false_iff_ne]; intro e; subst e; rw [h] at hb; cases hb
theorem sel_ne {c : Int} (h : selB c = true) (b : Int) (hb : selB b = false) : (c == b) = false := by
  rw [beq_eq_false_iff_ne]; intro e; subst e; rw [h] at hb; cases hb
theorem old_ne {c : Int} (h : oldB c = true) (b : Int) (hb : oldB b = false) : (c == b) = false := by
  rw [beq_eq_false_iff_ne]; intro e; subst e; rw [h] at hb; cases hb
theorem op_ne {c : Int} (h : opB c = true) (b : Int) (hb : opB b = false) : (c == b) = false := by
  rw [beq_eq_false_iff_ne]; intro e; subst e; rw [h] at hb; cases hb
theorem sel_dig {c : Int} (h : selB c = true) : digB c = false := by
  simp [selB] at h; rcases h with (rfl | rfl) | rfl <;> rfl
theorem old_dig {c : Int} (h : oldB c = true) : digB c = false := by
  simp [oldB] at h; rcases h with rfl | rfl <;> rfl
theorem old_sel {c : Int} (h : oldB c = true) : selB c = false := by
  simp [oldB] at h; rcases h with rfl | rfl <;> rfl
theorem op_dig {c : Int} (h : opB c = true) : digB c = false := by
  simp [opB] at h; rcases h with ((rfl | rfl) | rfl) | rfl <;> rfl

end Go.Proofs.YtdchbenfccofpabGreatDoor
namespace Go.Proofs.YtdchbenfccofpabGreatDoor
open Go.RowKit Db

theorem ret_bool {a b : Bool} (h : a = b) : Ending.returned (.bool a) = .returned (.bool b) := by rw [h]
theorem oldDig_at (s : ByteArray) (h : oldDig (L s)) : ∀ i (hi : i + 1 < s.size), oldB ((s[i]'(by omega)).toNat : Int) = true → digB (s[i + 1].toNat : Int) = true := by
  intro i hi
  have key : ∀ (l : List UInt8) (i : Nat), oldDig l → ∀ c d r, l.drop i = c :: d :: r → oldB c.toNat = true → digB d.toNat = true := by
    intro l
    induction l with
    | nil => intro i _ c d r e; simp at e
    | cons x t ih =>
      intro i ho c d r e hc
      cases i with
      | zero =>
        simp at e
        obtain ⟨rfl, rfl⟩ := e
        exact ho.1 hc
      | succ i => exact ih i ho.2 c d r (by simpa using e) hc
  exact key (L s) i h _ _ _ (by rw [L_drop s i (by omega), L_drop s (i + 1) hi])
theorem rch_step (s : ByteArray) (row : Int) (i : Nat) (h : i + 1 < s.size) : rch row ((L s).drop i) = ((oldB ((s[i]'(by omega)).toNat : Int) && decide (row ≤ (s[i + 1].toNat : Int) - 48)) || rch row ((L s).drop (i + 1))) := by
  rw [L_drop s i (by omega), L_drop s (i + 1) h]; rfl
theorem rch_end (s : ByteArray) (row : Int) (i : Nat) (h : s.size ≤ i + 1) : rch row ((L s).drop i) = false := by
  by_cases hi : i < s.size
  · rw [L_drop s i hi, L_drop_end s (i + 1) h]; simp [rch]
  · rw [L_drop_end s i (by omega)]; rfl

theorem size_of_L {s t : ByteArray} {l : List UInt8} (h : L t = l) (hl : l.length ≤ (L s).length) : t.size ≤ s.size := by
  rw [← L_length, ← L_length, h]; exact hl

theorem info_int : (Tryz.prog.info? 3).map (fun i => (i.zero, i.size, i.bytes)) = some (some (.int .i64 0), 1, 8) := by kernel_rfl

/-- What the kind of a row comes to. -/
def KindR (rows : List Int) (ps : List Pt) (k : Int) : Prop := 0 ≤ k ∧ k ≤ 2 ∧ ∀ q st, kEval rows (ps ++ q) st = kEval rows q (k :: st)

theorem KindR.neg {rows : List Int} {p : List Pt} {k : Int} (h : KindR rows p k) : KindR rows (p ++ [(126, 0)]) k :=
  ⟨h.1, h.2.1, fun q st => kEval_neg rows p q k h.2.2 st⟩
theorem KindR.bin {rows : List Int} {o : Int} (ho : opB o = true) {p q : List Pt} {a b : Int} (hp : KindR rows p a) (hq : KindR rows q b) : KindR rows (p ++ q ++ [(o, 0)]) (joinK o a b) :=
  ⟨(joinK_bd o a b ⟨hp.1, hp.2.1⟩).1, (joinK_bd o a b ⟨hp.1, hp.2.1⟩).2, fun r st => kEval_bin rows o ho p q r a b hp.2.2 hq.2.2 st⟩

end Go.Proofs.YtdchbenfccofpabGreatDoor
namespace Go.Proofs.YtdchbenfccofpabGreatDoor
open Go.RowKit Db

theorem two_strings {ss : List ByteArray} {x y : List UInt8} (h : ss.map L = [x, y]) : ∃ a b, ss = [a, b] ∧ L a = x ∧ L b = y := by
  match ss, h with
  | [a, b], h => simp at h; exact ⟨a, b, rfl, h.1, h.2⟩
  | [], h => simp at h
  | [a], h => simp at h
  | a :: b :: c :: r, h => simp at h

theorem cell_one_new' (w : World) (n : Nat) (hn : n = w.heap.size) (x : Value) (t : TypeId) : ∀ j u, [x][j]? = some u → (w.alloc (.cells #[x] t)).cell? ((⟨n, 0, none⟩ : Addr).add j) = some u := by
  subst hn; exact cell_one_new w x t
theorem own_ne {w : World} {B : Nat} {e : TypeId} {size : Nat} {v : Value} {n : Nat} {xs : List Value} (h : w.ownsRow B e size v n xs) {b : Nat} (hb : b < B) : some b ≠ v.ownBlock :=
  fun e => by have := (h.lt b e.symm).1; omega
theorem apart_symm {a b : Value} (h : a.ownBlock = none ∨ a.ownBlock ≠ b.ownBlock) : b.ownBlock = none ∨ b.ownBlock ≠ a.ownBlock := by
  rcases h with h | h
  · cases hb : b.ownBlock with
    | none => exact .inl rfl
    | some x => exact .inr (by rw [h]; simp)
  · exact .inr (fun e => h e.symm)

theorem day_val (d : ByteArray) (l : List UInt8) (h : L d = l) (hd : dayS l) : d.size ≤ 18 ∧ ∀ k (hk : k < d.size), 48 ≤ d[k].toNat ∧ d[k].toNat ≤ 57 := by
  subst h
  refine ⟨by rw [← L_length]; have := hd.2.1; omega, fun k hk => ?_⟩
  have := hd.2.2 d[k] (by rw [← L_get d k hk]; exact List.getElem_mem _)
  simp [digB] at this
  omega

end Go.Proofs.YtdchbenfccofpabGreatDoor
set_option linter.unusedVariables false
namespace Go.Proofs.YtdchbenfccofpabGreatDoor
open Go.RowKit Db
end Go.Proofs.YtdchbenfccofpabGreatDoor
set_option linter.unusedVariables false
namespace Go.Proofs.YtdchbenfccofpabGreatDoor
open Go.RowKit Db
end Go.Proofs.YtdchbenfccofpabGreatDoor
set_option linter.unusedVariables false
namespace Go.Proofs.YtdchbenfccofpabGreatDoor
open Go.RowKit Db
end Go.Proofs.YtdchbenfccofpabGreatDoor
namespace Go.Proofs.YtdchbenfccofpabGreatDoor
open Go.RowKit Db


theorem plc_at {s : ByteArray} {k : Nat} (h : k < s.size) {a d o : Int} {a' d' o' : Int} {ok : Bool} (hr : stepS a d o (s[k].toNat : Int) = if ok then some (a', d', o') else none) (hok : okS a d o k) :
    (ok = true → plc a d o k ((L s).drop k) = plc a' d' o' ((k + 1 : Nat) : Int) ((L s).drop (k + 1)) ∧ okS a' d' o' (k + 1)) ∧ (ok = false → plc a d o k ((L s).drop k) = k) := by
  refine ⟨?_, ?_⟩
  · rintro rfl
    rw [if_pos rfl] at hr
    refine ⟨?_, stepS_ok hok hr⟩
    rw [L_drop s k h, plc_step hr]; rfl
  · rintro rfl
    rw [if_neg (by simp)] at hr
    rw [L_drop s k h, plc_stop hr]
theorem step_days {a d o c : Int} (h : a < 6) : stepS a d o c = daysS a d o c := by unfold stepS; rw [if_pos h]
theorem step_fact {a d o c : Int} (h : a = 6 ∨ a = 8 ∨ a = 9) : stepS a d o c = factS a d o c := by
  unfold stepS; rw [if_neg (by omega), if_pos (by rcases h with rfl | rfl | rfl <;> rfl)]
theorem step_onw {a d o c : Int} (h : a = 7 ∨ a = 10 ∨ a = 11) : stepS a d o c = onwS a d o c := by
  unfold stepS; rw [if_neg (by omega), if_neg (by rcases h with rfl | rfl | rfl <;> decide)]

end Go.Proofs.YtdchbenfccofpabGreatDoor
namespace Go.Proofs.YtdchbenfccofpabGreatDoor
open Go.RowKit Db

/-- The sheet, as it is read: the values and where they lie. -/
structure SheetAt (w : World) (B : Nat) (vf vt vr : Value) (pd : List (List UInt8 × List UInt8)) (ss : List ByteArray) : Prop where
  rf : w.ownsRow B 3 1 vf pd.length (pd.map (fun p => .int .i64 (val p.1)))
  rt : w.ownsRow B 3 1 vt pd.length (pd.map (fun p => .int .i64 (val p.2)))
  rr : w.ownsRow B 9 1 vr ss.length (ss.map Value.string)

theorem SheetAt.drewN {w : World} {B : Nat} {vf vt vr : Value} {pd : List (List UInt8 × List UInt8)} {ss : List ByteArray} (h : SheetAt w B vf vt vr pd ss) (n : Nat) : SheetAt (w.drewN n) B vf vt vr pd ss := ⟨h.rf, h.rt, h.rr⟩
theorem SheetAt.kept {w w' : World} {B : Nat} {vf vt vr : Value} {pd : List (List UInt8 × List UInt8)} {ss : List ByteArray} (h : SheetAt w B vf vt vr pd ss) (hb : Below w.heap.size w w') : SheetAt w' B vf vt vr pd ss := ⟨ownsRow_below h.rf hb, ownsRow_below h.rt hb, ownsRow_below h.rr hb⟩
theorem SheetAt.alloc {w : World} {B : Nat} {vf vt vr : Value} {pd : List (List UInt8 × List UInt8)} {ss : List ByteArray} (h : SheetAt w B vf vt vr pd ss) (o : Obj) : SheetAt (w.alloc o) B vf vt vr pd ss := ⟨h.rf.alloc o, h.rt.alloc o, h.rr.alloc o⟩

/-- What Read answers to a report by its form. -/
def ReadR (w : World) (pd : List (List UInt8 × List UInt8)) (rows : List (List UInt8)) (pss : List (List Pt)) (e : Ending) (w' : World) : Prop :=
  ∃ a1 n1 c1 a2 n2 c2 a3 n3 c3 er pl, e = .returned (.tuple #[.agg #[.slice a1 n1 c1, .slice a2 n2 c2, .slice a3 n3 c3], .int .i64 er, .int .i64 pl]) ∧ outc (pdv pd) pss = (er, pl) ∧ Below w.heap.size w w' ∧
    (er = 0 → ∃ ss : List ByteArray, ss.map L = rows ∧ SheetAt w' w.heap.size (.slice a1 n1 c1) (.slice a2 n2 c2) (.slice a3 n3 c3) pd ss)

end Go.Proofs.YtdchbenfccofpabGreatDoor
namespace Go.Proofs.YtdchbenfccofpabGreatDoor
open Go.RowKit Db

def cellsC (l : List Cl) : List Value := l.flatMap fun c => [.int .i64 c.1, .int .u8 c.2]
theorem cellsC_snoc (l : List Cl) (c : Cl) : cellsC (l ++ [c]) = cellsC l ++ [.int .i64 c.1, .int .u8 c.2] := by simp [cellsC]
theorem cellsC_length (p : List Cl) : (cellsC p).length = p.length * 2 := by
  induction p with
  | nil => rfl
  | cons x t ih => show (_ :: _ :: cellsC t).length = _; simp [ih]; omega
/-- What the document gives for an operand. -/
def gE (s : Bk) (pd : List (List UInt8 × List UInt8)) (cells : List (List Cl)) (k : Nat) : Pt → Cl := opE s (pdv pd) cells k

theorem five_cells {W : World} {n : Nat} {a b c d e : Value} {T : TypeId} (B : Blk W n #[a, b, c, d, e] T) : W.cell? ⟨n, 0, none⟩ = some a ∧ W.cell? ⟨n, 1, none⟩ = some b ∧ W.cell? ⟨n, 2, none⟩ = some c ∧ W.cell? ⟨n, 3, none⟩ = some d ∧ W.cell? ⟨n, 4, none⟩ = some e := by
  refine ⟨?_, ?_, ?_, ?_, ?_⟩ <;> rw [B.cell] <;> rfl
end Go.Proofs.YtdchbenfccofpabGreatDoor
namespace Go.Proofs.YtdchbenfccofpabGreatDoor
open Go.RowKit Db

theorem dig_at {t : ByteArray} {l : List UInt8} (h : L t = l) (hd : ∀ c ∈ l, digB c.toNat = true) : ∀ k (hk : k < t.size), 48 ≤ t[k].toNat ∧ t[k].toNat ≤ 57 := by
  intro k hk
  have := hd t[k] (by rw [← h, ← L_get t k hk]; exact List.getElem_mem _)
  simp [digB] at this
  omega
theorem val_in {l : List UInt8} (h : l.length ≤ 18) (hd : ∀ c ∈ l, digB c.toNat = true) : inR (val l) = true := by
  have h1 := val_pos l hd
  have h2 := val_lt l hd
  have h3 : (10 : Int) ^ l.length ≤ 10 ^ 18 := by
    have : (10 : Nat) ^ l.length ≤ 10 ^ 18 := Nat.pow_le_pow_right (by omega) h
    exact_mod_cast this
  have : (10 : Int) ^ 18 = 1000000000000000000 := by decide
  rw [inR_iff]; omega

/-- What stands behind the sign. -/
theorem sign_val {t : ByteArray} {c : UInt8} {ds : List UInt8} (he : L t = c :: ds) (h1 : 1 ≤ ds.length) (h2 : ds.length ≤ 2) (hd : ∀ x ∈ ds, digB x.toNat = true) :
    1 < t.size ∧ t.size ≤ 3 ∧ (∀ hz : 0 < t.size, t[0] = c) ∧ (t.extract 1 t.size).size ≤ 18 ∧ (∀ k (hk : k < (t.extract 1 t.size).size), 48 ≤ (t.extract 1 t.size)[k].toNat ∧ (t.extract 1 t.size)[k].toNat ≤ 57) ∧ ∃ n : Nat, val (L (t.extract 1 t.size)) = n ∧ val ds = n := by
  have hsz : t.size = ds.length + 1 := by rw [← L_length, he]; rfl
  have hex : L (t.extract 1 t.size) = ds := by
    rw [L_extract, he, List.drop_succ_cons, List.drop_zero]
    exact List.take_of_length_le (by omega)
  refine ⟨by omega, by omega, fun hz => ?_, ?_, dig_at hex hd, (val ds).toNat, ?_, ?_⟩
  · have e1 := L_get? t 0 hz
    rw [he] at e1
    simpa using e1.symm
  · rw [← L_length, hex]; omega
  · rw [hex]; have := val_pos ds hd; omega
  · have := val_pos ds hd; omega

def selC (s : Bk) (sel n a b : Int) : Cl := if sel == 35 then ((tkT (inA s sel n) a b s.txs).2, 0) else ((tkT (inA s sel n) a b s.txs).1, 0)
theorem kept_cell' {W W' : World} (h : Below W.heap.size W W') {a : Addr} {v : Value} (hc : W.cell? a = some v) : W'.cell? a = some v := by
  rw [h.cell (World.block_lt_of_cell? W a hc)]; exact hc

theorem tkT_in {s : Bk} (h : BkGood s) (q : Int → Bool) (a b : Int) : inR (tkT q a b s.txs).1 = true ∧ inR (tkT q a b s.txs).2 = true := by
  have h1 := tkT_le q a b s.txs (fun t ht => ⟨(h.tx t ht).2.2.2.2.1, fun l hl => ⟨((h.tx t ht).2.2.2.2.2 l hl).2.2.1, ((h.tx t ht).2.2.2.2.2 l hl).2.2.2⟩⟩)
  have h2 := h.posts
  rw [inR_iff, inR_iff]
  omega
theorem selC_ok {s : Bk} (h : BkGood s) (o n a b : Int) : ClOk (selC s o n a b) := by
  unfold selC
  split
  · exact .inl ⟨rfl, (tkT_in h _ a b).2⟩
  · exact .inl ⟨rfl, (tkT_in h _ a b).1⟩
theorem cell_ok {cells : List (List Cl)} (h : ∀ row ∈ cells, ∀ c ∈ row, ClOk c) (n k : Nat) : ClOk ((cells.getD n []).getD k (0, 0)) := by
  rw [List.getD_eq_getElem?_getD, List.getD_eq_getElem?_getD]
  cases hn : cells[n]? with
  | none => left; exact ⟨rfl, rfl⟩
  | some row =>
    simp only [Option.getD_some]
    cases hk : row[k]? with
    | none => left; exact ⟨rfl, rfl⟩
    | some c => exact h row (List.mem_of_getElem? hn) c (List.mem_of_getElem? hk)
end Go.Proofs.YtdchbenfccofpabGreatDoor
namespace Go.Proofs.YtdchbenfccofpabGreatDoor
open Go.RowKit Db

theorem clOk_in {c : Cl} (h : ClOk c) : inR c.1 = true := by
  rcases h with h | rfl | rfl
  · exact h.2
  · rfl
  · rfl

end Go.Proofs.YtdchbenfccofpabGreatDoor
namespace Go.Proofs.YtdchbenfccofpabGreatDoor
open Go.RowKit Db

theorem own_down {w : World} {B B' : Nat} {e : TypeId} {size : Nat} {v : Value} {n : Nat} {xs : List Value} (h : w.ownsRow B e size v n xs) (hB : B' ≤ B) : w.ownsRow B' e size v n xs := by
  refine ⟨h.1, ?_⟩
  rcases h.2 with hn | ⟨g, cap, cur, rfl, hbg, rest⟩
  · exact .inl hn
  · exact .inr ⟨g, cap, cur, rfl, Nat.le_trans hB hbg, rest⟩
/-- The cells of the first k periods. -/
def rowP (s : Bk) (pd : List (Int × Int)) (cells : List (List Cl)) (ps : List Pt) (k : Nat) : List Cl := (List.range k).map fun i => cel (opE s pd cells i) ps
theorem rowP_snoc (s : Bk) (pd : List (Int × Int)) (cells : List (List Cl)) (ps : List Pt) (k : Nat) : rowP s pd cells ps (k + 1) = rowP s pd cells ps k ++ [cel (opE s pd cells k) ps] := by
  unfold rowP; rw [List.range_succ, List.map_append]; rfl
theorem rowP_len (s : Bk) (pd : List (Int × Int)) (cells : List (List Cl)) (ps : List Pt) (k : Nat) : (rowP s pd cells ps k).length = k := by simp [rowP]
theorem shC_snoc {s : Bk} {pd : List (Int × Int)} {pss : List (List Pt)} {j : Nat} {ps : List Pt} (h : pss[j]? = some ps) : shC s pd (pss.take (j + 1)) = shC s pd (pss.take j) ++ [rowP s pd (shC s pd (pss.take j)) ps pd.length] := by
  unfold shC
  rw [List.take_add_one, h]
  simp only [Option.toList_some, List.foldl_append, List.foldl_cons, List.foldl_nil]
  rfl
theorem shC_len (s : Bk) (pd : List (Int × Int)) (pss : List (List Pt)) : (shC s pd pss).length = pss.length := by
  have key : ∀ (l : List (List Pt)) (acc : List (List Cl)), (l.foldl (fun cells ps => cells ++ [rowC s pd cells ps]) acc).length = acc.length + l.length := by
    intro l
    induction l with
    | nil => intro acc; simp
    | cons x t ih => intro acc; rw [List.foldl_cons, ih]; simp; omega
  unfold shC; rw [key]; simp

/-- A row that can be worked out, at place i. -/
structure RowW (t : ByteArray) (ps : List Pt) (i : Nat) : Prop where
  wf : ∃ n, Wf n (L t) ps
  sz : t.size ≤ 200
  old : ∀ p ∈ ps, oldB p.1 = true → p.2.toNat < i
end Go.Proofs.YtdchbenfccofpabGreatDoor
namespace Db
theorem dg2_stop {d : List UInt8} {m : Nat} (hm : m ≤ 2) (hd : ∀ c ∈ d.take m, digB c.toNat = true) (he : m = 2 ∨ d.length ≤ m ∨ ∃ c, d[m]? = some c ∧ digB c.toNat = false) : dg2 d = d.take m := by
  unfold dg2
  match m, hm, hd, he with
  | 0, _, _, he =>
    cases d with
    | nil => rfl
    | cons a r =>
      rcases he with he | he | ⟨c, hc, hn⟩
      · cases he
      · simp at he
      · simp at hc; subst hc; simp [hn]
  | 1, _, hd, he =>
    match d with
    | [] => rfl
    | [a] => have := hd a (by simp); simp [this]
    | a :: b :: r =>
      have h1 := hd a (by simp)
      rcases he with he | he | ⟨c, hc, hn⟩
      · cases he
      · simp at he
      · simp at hc; subst hc; simp [h1, hn]
  | 2, _, hd, _ =>
    match d with
    | [] => rfl
    | [a] => have := hd a (by simp); simp [this]
    | a :: b :: r =>
      have h1 := hd a (by simp)
      have h2 := hd b (by simp)
      simp [h1, h2]
end Db
namespace Go.Proofs.YtdchbenfccofpabGreatDoor
open Go.RowKit Db

/-- Names a row an account that the book does not have? -/
def notB (s : Bk) (n : Int) : Bool := !ther s n
theorem strg_step (q : Int → Bool) (t : ByteArray) (i : Nat) (h : i < t.size) : strg q ((L t).drop i) = ((selB (t[i].toNat : Int) && q (val (dg2 ((L t).drop (i + 1))))) || strg q ((L t).drop (i + 1))) := by
  rw [L_drop t i h]; rfl
theorem take_dig {t : ByteArray} {i m : Nat} (h : i + m < t.size) (hd : ∀ c ∈ ((L t).drop i).take m, digB c.toNat = true) (h0 : digB (t[i + m].toNat : Int) = true) : ∀ c ∈ ((L t).drop i).take (m + 1), digB c.toNat = true := by
  intro c hc
  rw [List.take_succ_eq_append_getElem (by rw [List.length_drop, L_length]; omega)] at hc
  simp only [List.mem_append, List.mem_singleton] at hc
  rcases hc with hc | rfl
  · exact hd c hc
  · rw [List.getElem_drop, L_get t (i + m) h]; exact h0

/-- A cell as a text. -/
def cellT (c : Cl) : List UInt8 := if c.2 == 0 then Lib.itoa c.1 else [UInt8.ofNat c.2.toNat]
end Go.Proofs.YtdchbenfccofpabGreatDoor
namespace Db
/-- What stands ahead of the i-th text: those ahead of it, and a sign. -/
def jpre (sep : UInt8) (l : List (List UInt8)) (i : Nat) : List UInt8 := if i = 0 then [] else jn sep (l.take i) ++ [sep]
theorem jn_pre {sep : UInt8} {l : List (List UInt8)} {i : Nat} {x : List UInt8} (h : l[i]? = some x) : jn sep (l.take (i + 1)) = jpre sep l i ++ x := by
  unfold jpre
  by_cases hi : i = 0
  · subst hi; rw [if_pos rfl]; exact jn_one h
  · rw [if_neg hi, jn_more (by omega) h]; simp
theorem jpre_zero (sep : UInt8) (l : List (List UInt8)) : jpre sep l 0 = [] := rfl
theorem jpre_pos {sep : UInt8} {l : List (List UInt8)} {i : Nat} (h : 0 < i) : jpre sep l i = jn sep (l.take i) ++ [sep] := by unfold jpre; rw [if_neg (by omega)]
end Db
namespace Go.Proofs.YtdchbenfccofpabGreatDoor
open Go.RowKit Db

theorem size_app (a b : ByteArray) : (a ++ b).size = a.size + b.size := by rw [size_L, L_append, List.length_append, L_length, L_length]
def rowX (row : List Cl) : List (List UInt8) := row.map cellT
def rptX (cells : List (List Cl)) : List (List UInt8) := cells.map fun row => jn 44 (rowX row)
/-- A report's cells as a text. -/
def rptT (cells : List (List Cl)) : List UInt8 := jn 59 (rptX cells)
theorem outc_few {pd : List (Int × Int)} {pss : List (List Pt)} {er pl : Int} (h : outc pd pss = (er, pl)) (h0 : er = 0) : pd.length ≤ 4 ∧ pss.length ≤ 8 ∧ pl = 0 ∧ badN 0 pss < 0 := by
  subst h0
  unfold outc at h
  split at h
  · simp at h
  · split at h
    · simp at h
    · split at h
      · simp at h
      · split at h
        · simp at h
        · simp at h; omega
theorem rowW_of {t : ByteArray} {pd : List (List UInt8 × List UInt8)} {rows : List (List UInt8)} {pss : List (List Pt)} {ss : List ByteArray} {pl : Int} (hf : Db.Form (L t) pd rows pss) (ho : outc (pdv pd) pss = (0, pl)) (hss : ss.map L = rows) : ∀ (i : Nat) u ps, ss[i]? = some u → pss[i]? = some ps → RowW u ps i := by
  intro i u ps hu hps
  have hr : rows[i]? = some (L u) := by rw [← hss, List.getElem?_map, hu]; rfl
  have h := hf.row i (L u) ps hr hps
  refine ⟨h.wf, by rw [← L_length]; exact h.len, ?_⟩
  have h1 := badN_all pss 0 (by omega) (outc_few ho rfl).2.2.2 i ps hps
  exact nameB_lt h1 h.pos i (by omega)
theorem strg_of {t : ByteArray} {pd : List (List UInt8 × List UInt8)} {rows : List (List UInt8)} {pss : List (List Pt)} {ss : List ByteArray} (hf : Db.Form (L t) pd rows pss) (hss : ss.map L = rows) (q : Int → Bool) : ∀ (i : Nat) u ps, ss[i]? = some u → pss[i]? = some ps → strg q (L u) = selq q ps := by
  intro i u ps hu hps
  exact (hf.row i (L u) ps (by rw [← hss, List.getElem?_map, hu]; rfl) hps).sel q
theorem any_drop {α : Type} {f : α → Bool} {l : List α} {j : Nat} {x : α} (h : l[j]? = some x) : (l.drop j).any f = (f x || (l.drop (j + 1)).any f) := by
  obtain ⟨hi, rfl⟩ := List.getElem?_eq_some_iff.1 h
  rw [List.drop_eq_getElem_cons hi]; rfl
theorem shC_wid {s : Bk} {pd : List (Int × Int)} : ∀ (pss : List (List Pt)), ∀ row ∈ shC s pd pss, row.length = pd.length := by
  intro pss
  have key : ∀ (l : List (List Pt)) (acc : List (List Cl)), (∀ row ∈ acc, row.length = pd.length) → ∀ row ∈ l.foldl (fun cells ps => cells ++ [rowC s pd cells ps]) acc, row.length = pd.length := by
    intro l
    induction l with
    | nil => intro acc h; exact h
    | cons x t ih =>
      intro acc h
      rw [List.foldl_cons]
      refine ih _ ?_
      intro row hr
      simp at hr
      rcases hr with hr | rfl
      · exact h row hr
      · simp [rowC]
  exact key pss [] (by simp)

/-- What Report answers. -/
def RepIs (b : Bk) (s u : ByteArray) (er : Int) : Prop :=
  (200 < s.size ∧ er = 1 ∧ u = ⟨#[]⟩) ∨ (s.size ≤ 200 ∧ er = 2 ∧ 0 ≤ plc 0 0 0 0 (L s) ∧ u = ⟨#[]⟩) ∨
  (s.size ≤ 200 ∧ ∃ pd rows pss e0 pl, Db.Form (L s) pd rows pss ∧ outc (pdv pd) pss = (e0, pl) ∧ ((¬ e0 = 0 ∧ er = e0 ∧ u = ⟨#[]⟩) ∨ (e0 = 0 ∧ pss.any (selq (notB b)) = true ∧ er = 7 ∧ u = ⟨#[]⟩) ∨ (e0 = 0 ∧ pss.any (selq (notB b)) = false ∧ er = 0 ∧ L u = rptT (shC b (pdv pd) pss))))

end Go.Proofs.YtdchbenfccofpabGreatDoor
namespace Db
open Go

theorem valGo_app (l : List UInt8) (c : UInt8) : ∀ n, valGo n (l ++ [c]) = 10 * valGo n l + ((c.toNat : Int) - 48) := by
  induction l with
  | nil => intro n; rfl
  | cons x t ih => intro n; exact ih _
theorem ofNat_dig {d : Nat} (h : d < 10) : (UInt8.ofNat (48 + d)).toNat = 48 + d := by simp; omega
/-- The digits of a number. -/
theorem dec_facts (u : Nat) : (∀ c ∈ Lib.decDigits u, digB c.toNat = true) ∧ val (Lib.decDigits u) = u ∧ Lib.decDigits u ≠ [] ∧ (1 ≤ u → 10 ^ ((Lib.decDigits u).length - 1) ≤ u ∧ ∃ c t, Lib.decDigits u = c :: t ∧ ¬ c.toNat = 48) := by
  induction u using Nat.strongRecOn with
  | ind u ih =>
    by_cases h : u < 10
    · rw [Lib.decDigits_one h]
      have hd := ofNat_dig h
      refine ⟨?_, ?_, by simp, ?_⟩
      · intro c hc
        simp only [List.mem_singleton] at hc
        subst hc
        rw [hd]; unfold digB; simp; omega
      · show 10 * 0 + (((UInt8.ofNat (48 + u)).toNat : Int) - 48) = u
        rw [hd]; omega
      · intro h1
        refine ⟨by simpa using h1, _, [], rfl, ?_⟩
        rw [hd]; omega
    · obtain ⟨h1, h2, h3, h4⟩ := ih (u / 10) (by omega)
      obtain ⟨h5, c, t, h6, h7⟩ := h4 (by omega)
      have hd := ofNat_dig (d := u % 10) (by omega)
      have he : Lib.decDigits u = Lib.decDigits (u / 10) ++ [UInt8.ofNat (48 + u % 10)] := by rw [Lib.decDigits, dif_neg h]
      rw [he]
      refine ⟨?_, ?_, by simp, fun _ => ⟨?_, c, t ++ [UInt8.ofNat (48 + u % 10)], by rw [h6]; rfl, h7⟩⟩
      · intro x hx
        simp only [List.mem_append, List.mem_singleton] at hx
        rcases hx with hx | rfl
        · exact h1 x hx
        · rw [hd]; unfold digB; simp; omega
      · unfold val at h2 ⊢
        rw [valGo_app, h2, hd]; omega
      · have hl : 1 ≤ (Lib.decDigits (u / 10)).length := by rw [h6]; simp
        rw [List.length_append, List.length_singleton, Nat.add_sub_cancel]
        obtain ⟨m, hm⟩ : ∃ m, (Lib.decDigits (u / 10)).length = m + 1 := ⟨(Lib.decDigits (u / 10)).length - 1, by omega⟩
        rw [hm] at h5 ⊢
        rw [Nat.add_sub_cancel] at h5
        rw [Nat.pow_succ]
        omega
theorem dec_len {u : Nat} (h : u ≤ 9223372036854775808) : (Lib.decDigits u).length ≤ 19 := by
  by_cases h0 : u = 0
  · subst h0; rw [Lib.decDigits_one (by omega)]; decide
  · have h1 := ((dec_facts u).2.2.2 (by omega)).1
    rcases Nat.lt_or_ge 19 (Lib.decDigits u).length with h2 | h2
    · exfalso
      have h3 : 10 ^ 19 ≤ 10 ^ ((Lib.decDigits u).length - 1) := Nat.pow_le_pow_right (by omega) (by omega)
      have : (10 : Nat) ^ 19 = 10000000000000000000 := by decide
      omega
    · exact h2
end Db
