/- Reports: the program's sheet as a text; the program's Report. Reports: the program's Report and the document's answer the same. Zero: the law's walk. -/
import Derived.Test.YtdchbenfccofpaaGreatDoorU15
import Derived.Test.YtdchbenfccofpaaGreatDoorU14
namespace Go.Proofs.YtdchbenfccofpaaGreatDoor
open Go.RowKit Db

set_option maxRecDepth 100000 in
set_option maxHeartbeats 8000000 in
theorem sText_any (q : Nat) (b : Bk) (pd : List (List UInt8 × List UInt8)) (cells : List (List Cl)) (w : World) (h : Sht' w q b pd cells) (ht : Tab w) :
    Calls Tryz.prog 98 #[.pointer (some ⟨q, 0, none⟩)] w fun e w' => ∃ u : ByteArray, e = .returned (.string u) ∧ L u = rptT cells ∧ Below w.heap.size w w' := by
  obtain ⟨p, vp, vc, vs, h⟩ := h
  obtain ⟨aoc, capc, rfl⟩ := ownsRow_form h.cs.own
  obtain ⟨c0, c1, c2⟩ := three_cells h.blk
  have hvl : vs.length = cells.length := h.cs.len
  have hc8 : cells.length ≤ 8 := h.few.2
  have hp4 : pd.length ≤ 4 := h.few.1
  rw [hvl] at c2
  have HG := hide h
  have Ht := hide ht
  clear h ht
  go_enter Tryz.func98, Tryz.ntmps98
  go_wp2_with fail
  go_loopg [3, 13] cells.length (fun m tv i wx => ∃ j : Nat, ∃ u : ByteArray, j ≤ cells.length ∧ m = cells.length - j ∧ i = .int .i64 j ∧ tv = .string u ∧ u.size ≤ 100 * j ∧ Hid (L u = jn 59 ((rptX cells).take j)) ∧ Hid (Below w.heap.size w wx))
  case atStart => exact ⟨0, ⟨#[]⟩, by omega, rfl, rfl, rfl, Nat.zero_le _, rfl, Below.refl _ _⟩
  case round =>
    obtain ⟨i, u, hi, rfl, rfl, rfl, hus, Hu, Hb3⟩ := hrel
    have hsz3 := (unhide Hb3).size
    by_cases hlt2 : i < cells.length
    · obtain ⟨row, hrow⟩ : ∃ row, cells[i]? = some row := ⟨cells[i], List.getElem?_eq_getElem hlt2⟩
      have hwid : row.length = pd.length := (unhide HG).wid row (List.mem_of_getElem? hrow)
      have Hok := hide ((unhide HG).ok row (List.mem_of_getElem? hrow))
      have HX : Hid ((rptX cells)[i]? = some (jn 44 (rowX row))) := by show _ = _; unfold rptX; rw [List.getElem?_map, hrow]; rfl
      obtain ⟨v, hv⟩ : ∃ v, vs[i]? = some v := ⟨vs[i]'(by omega), List.getElem?_eq_getElem _⟩
      have hR0 := (unhide HG).cs.row i v row hv hrow
      rw [hwid] at hR0
      have HR := hide hR0
      obtain ⟨aor, capr, rfl⟩ := ownsRow_form (unhide HR)
      obtain ⟨gc, _, e1, hgc, hgc'⟩ := ownsRow_some (unhide HG).cs.own (by omega)
      simp only [Value.slice.injEq] at e1
      obtain ⟨rfl, _, rfl⟩ := e1
      have dd0 := ownsRow_cell (unhide HG).cs.own (j := i) hv
      have dd := kept_cell' (unhide Hb3) dd0
      have Hin : Hid (∀ u1 : ByteArray, L u1 = jpre 59 (rptX cells) i → ∀ u2 : ByteArray, L u2 = jpre 59 (rptX cells) i ++ jn 44 (rowX row) → L u2 = jn 59 ((rptX cells).take (i + 1))) := by
        intro u1 h1 u2 h2
        rw [jn_pre (unhide HX), h2]
      have Hstart : Hid (∃ u1 : ByteArray, u1 = (if i = 0 then u else u ++ ⟨#[59]⟩) ∧ L u1 = jpre 59 (rptX cells) i ∧ u1.size ≤ 100 * i + 1) := by
        refine ⟨_, rfl, ?_, ?_⟩
        · by_cases h0 : i = 0
          · subst h0; rw [if_pos rfl, jpre_zero]; have := unhide Hu; simpa [jn] using this
          · rw [if_neg h0, L_append, unhide Hu, jpre_pos (by omega)]; rfl
        · by_cases h0 : i = 0
          · rw [if_pos h0]; omega
          · rw [if_neg h0, size_L, L_append, List.length_append, L_length]; show u.size + 1 ≤ _; omega
      obtain ⟨u1, hu1, hL1, hs1⟩ := unhide Hstart
      have HL1 := hide hL1
      have hin : (i : Int) < (cells.length : Int) := by omega
      clear Hstart hL1 hrow hv hR0 dd0
      by_cases h0 : i = 0
      · have hpos : ¬ (0 : Int) < (i : Int) := by omega
        rw [if_pos h0] at hu1
        clear h0
        go_wp2_with fail
        obtain ⟨W3, hW3⟩ : ∃ W3, wr = W3 := ⟨_, rfl⟩
        rw [hW3] at Hb3 hsz3 ⊢
        clear hW3 dd
        go_loopg [3, 24] pd.length (fun m tv iv wx => ∃ k : Nat, ∃ u : ByteArray, k ≤ pd.length ∧ m = pd.length - k ∧ iv = .int .i64 k ∧ tv = .string u ∧ u.size ≤ 810 + 22 * k ∧ Hid (u.size ≤ 100 * i + 1 + 22 * k) ∧ Hid (L u = jpre 59 (rptX cells) i ++ jn 44 ((rowX row).take k)) ∧ Hid (Below W3.heap.size W3 wx))
        case atStart => exact ⟨0, u, by omega, rfl, rfl, rfl, by rw [← hu1]; omega, (show _ ≤ _ from by rw [← hu1]; omega), (show _ = _ from by rw [← hu1, unhide HL1]; simp [jn]), Below.refl _ _⟩
        case round =>
          obtain ⟨k, u2, hk, rfl, rfl, rfl, hu2s, Hu2s, Hu2, Hb4⟩ := hrel
          have hsz4 := (unhide Hb4).size
          have Hbw4 := hide ((unhide Hb3).then' hsz3 (unhide Hb4))
          by_cases hlk : k < pd.length
          · obtain ⟨c, hc⟩ : ∃ c, row[k]? = some c := ⟨row[k]'(by omega), List.getElem?_eq_getElem _⟩
            have hro := ownsRow_below (unhide HR) (unhide Hbw4)
            obtain ⟨gr, _, e1, hgr, hgr'⟩ := ownsRow_some hro (by omega)
            simp only [Value.slice.injEq, true_and] at e1
            obtain ⟨rfl, rfl⟩ := e1
            have h2 := two_get (fun c : Cl => Value.int .i64 (gst c.2)) (fun c => Value.int .i64 c.1) row k c hc
            have d1 := ownsRow_cell hro (j := k * 2) h2.1
            have d2 := ownsRow_cell hro (j := k * 2 + 1) h2.2
            have Hoc := hide (unhide Hok c (List.mem_of_getElem? hc))
            have Hxc : Hid ((rowX row)[k]? = some (cellT c)) := by show _ = _; unfold rowX; rw [List.getElem?_map, hc]; rfl
            have Htx := hide (fun (wx : World) (hb : Below w.heap.size w wx) => gText_any c wx (unhide Hoc) ((unhide Ht).below hb))
            obtain ⟨c1, c2⟩ := c
            unfold gV at Htx
            simp only at d1 d2 Htx
            obtain ⟨z, hz⟩ : ∃ z, gst c2 = z := ⟨_, rfl⟩
            rw [hz] at d1 Htx
            have hszw := (unhide Hbw4).size
            clear hro h2 hc hz
            by_cases hk0 : k = 0
            · have hk1 : ¬ (0 : Int) < (k : Int) := by omega
              have Hk0 := hide hk0
              clear hk0
              go_wp2_with fail
              refine (unhide Htx _ (by exact (unhide Hbw4).alloc hszw _)).mono ?_
              rintro e w6 ⟨u6, rfl, hu6, hs6, hb6⟩
              have Hu6 : Hid (L (u2 ++ u6) = jpre 59 (rptX cells) i ++ jn 44 ((rowX row).take (k + 1))) := by
                show _ = _
                rw [L_append, unhide Hu2, hu6, jn_pre (unhide Hxc), unhide Hk0, jpre_zero]; simp [jn]
              have Hs6 : Hid ((u2 ++ u6).size ≤ 100 * i + 1 + 22 * (k + 1) ∧ (u2 ++ u6).size ≤ 810 + 22 * (k + 1)) := by
                have := unhide Hu2s
                show _ ∧ _
                rw [size_app]; omega
              have Hb6 := hide (((unhide Hb4).alloc hsz4 _).then' (by simp; omega) hb6)
              clear hu6 hb6
              go_wp2_with fail
              go_roundg (pd.length - (k + 1))
              case measure => omega
              case rel => exact ⟨k + 1, _, by omega, rfl, by go_num, rfl, (unhide Hs6).2, (unhide Hs6).1, unhide Hu6, unhide Hb6⟩
            · have hk1 : (0 : Int) < (k : Int) := by omega
              go_wp2_with fail
              refine (unhide Htx _ (by exact (unhide Hbw4).alloc hszw _)).mono ?_
              rintro e w6 ⟨u6, rfl, hu6, hs6, hb6⟩
              have Hu6 : Hid (L (u2 ++ ⟨#[44]⟩ ++ u6) = jpre 59 (rptX cells) i ++ jn 44 ((rowX row).take (k + 1))) := by
                show _ = _
                rw [L_append, L_append, unhide Hu2, hu6, jn_pre (unhide Hxc), jpre_pos (sep := 44) (i := k) (by omega), show L ⟨#[44]⟩ = [44] from rfl]; simp
              have Hs6 : Hid ((u2 ++ ⟨#[44]⟩ ++ u6).size ≤ 100 * i + 1 + 22 * (k + 1) ∧ (u2 ++ ⟨#[44]⟩ ++ u6).size ≤ 810 + 22 * (k + 1)) := by
                have := unhide Hu2s
                show _ ∧ _
                rw [size_app, size_app]; show u2.size + 1 + u6.size ≤ _ ∧ u2.size + 1 + u6.size ≤ _; omega
              have Hb6 := hide (((unhide Hb4).alloc hsz4 _).then' (by simp; omega) hb6)
              clear hu6 hb6
              go_wp2_with fail
              go_roundg (pd.length - (k + 1))
              case measure => omega
              case rel => exact ⟨k + 1, _, by omega, rfl, by go_num, rfl, (unhide Hs6).2, (unhide Hs6).1, unhide Hu6, unhide Hb6⟩
          · obtain rfl : k = pd.length := by omega
            have Hu7 : Hid (L u2 = jn 59 ((rptX cells).take (i + 1))) := unhide Hin _ (unhide HL1) u2 (by rw [unhide Hu2, List.take_of_length_le (by simp [rowX, hwid])])
            have hs7 : u2.size ≤ 100 * (i + 1) := by have := unhide Hu2s; omega
            go_wp2_with fail
            go_roundg (cells.length - (i + 1))
            case measure => omega
            case rel => exact ⟨i + 1, u2, by omega, rfl, by go_num, rfl, hs7, unhide Hu7, unhide Hbw4⟩
      · have hpos : (0 : Int) < (i : Int) := by omega
        have hposN : decide (0 < i) = true := by simp; omega
        rw [if_neg h0] at hu1
        clear h0
        go_wp2_with fail
        obtain ⟨W3, hW3⟩ : ∃ W3, wr = W3 := ⟨_, rfl⟩
        rw [hW3] at Hb3 hsz3 ⊢
        clear hW3 dd
        go_loopg [3, 24] pd.length (fun m tv iv wx => ∃ k : Nat, ∃ u : ByteArray, k ≤ pd.length ∧ m = pd.length - k ∧ iv = .int .i64 k ∧ tv = .string u ∧ u.size ≤ 810 + 22 * k ∧ Hid (u.size ≤ 100 * i + 1 + 22 * k) ∧ Hid (L u = jpre 59 (rptX cells) i ++ jn 44 ((rowX row).take k)) ∧ Hid (Below W3.heap.size W3 wx))
        case atStart => exact ⟨0, (u ++ ⟨#[59]⟩), by omega, rfl, rfl, rfl, by rw [← hu1]; omega, (show _ ≤ _ from by rw [← hu1]; omega), (show _ = _ from by rw [← hu1, unhide HL1]; simp [jn]), Below.refl _ _⟩
        case round =>
          obtain ⟨k, u2, hk, rfl, rfl, rfl, hu2s, Hu2s, Hu2, Hb4⟩ := hrel
          have hsz4 := (unhide Hb4).size
          have Hbw4 := hide ((unhide Hb3).then' hsz3 (unhide Hb4))
          by_cases hlk : k < pd.length
          · obtain ⟨c, hc⟩ : ∃ c, row[k]? = some c := ⟨row[k]'(by omega), List.getElem?_eq_getElem _⟩
            have hro := ownsRow_below (unhide HR) (unhide Hbw4)
            obtain ⟨gr, _, e1, hgr, hgr'⟩ := ownsRow_some hro (by omega)
            simp only [Value.slice.injEq, true_and] at e1
            obtain ⟨rfl, rfl⟩ := e1
            have h2 := two_get (fun c : Cl => Value.int .i64 (gst c.2)) (fun c => Value.int .i64 c.1) row k c hc
            have d1 := ownsRow_cell hro (j := k * 2) h2.1
            have d2 := ownsRow_cell hro (j := k * 2 + 1) h2.2
            have Hoc := hide (unhide Hok c (List.mem_of_getElem? hc))
            have Hxc : Hid ((rowX row)[k]? = some (cellT c)) := by show _ = _; unfold rowX; rw [List.getElem?_map, hc]; rfl
            have Htx := hide (fun (wx : World) (hb : Below w.heap.size w wx) => gText_any c wx (unhide Hoc) ((unhide Ht).below hb))
            obtain ⟨c1, c2⟩ := c
            unfold gV at Htx
            simp only at d1 d2 Htx
            obtain ⟨z, hz⟩ : ∃ z, gst c2 = z := ⟨_, rfl⟩
            rw [hz] at d1 Htx
            have hszw := (unhide Hbw4).size
            clear hro h2 hc hz
            by_cases hk0 : k = 0
            · have hk1 : ¬ (0 : Int) < (k : Int) := by omega
              have Hk0 := hide hk0
              clear hk0
              go_wp2_with fail
              refine (unhide Htx _ (by exact (unhide Hbw4).alloc hszw _)).mono ?_
              rintro e w6 ⟨u6, rfl, hu6, hs6, hb6⟩
              have Hu6 : Hid (L (u2 ++ u6) = jpre 59 (rptX cells) i ++ jn 44 ((rowX row).take (k + 1))) := by
                show _ = _
                rw [L_append, unhide Hu2, hu6, jn_pre (unhide Hxc), unhide Hk0, jpre_zero]; simp [jn]
              have Hs6 : Hid ((u2 ++ u6).size ≤ 100 * i + 1 + 22 * (k + 1) ∧ (u2 ++ u6).size ≤ 810 + 22 * (k + 1)) := by
                have := unhide Hu2s
                show _ ∧ _
                rw [size_app]; omega
              have Hb6 := hide (((unhide Hb4).alloc hsz4 _).then' (by simp; omega) hb6)
              clear hu6 hb6
              go_wp2_with fail
              go_roundg (pd.length - (k + 1))
              case measure => omega
              case rel => exact ⟨k + 1, _, by omega, rfl, by go_num, rfl, (unhide Hs6).2, (unhide Hs6).1, unhide Hu6, unhide Hb6⟩
            · have hk1 : (0 : Int) < (k : Int) := by omega
              go_wp2_with fail
              refine (unhide Htx _ (by exact (unhide Hbw4).alloc hszw _)).mono ?_
              rintro e w6 ⟨u6, rfl, hu6, hs6, hb6⟩
              have Hu6 : Hid (L (u2 ++ ⟨#[44]⟩ ++ u6) = jpre 59 (rptX cells) i ++ jn 44 ((rowX row).take (k + 1))) := by
                show _ = _
                rw [L_append, L_append, unhide Hu2, hu6, jn_pre (unhide Hxc), jpre_pos (sep := 44) (i := k) (by omega), show L ⟨#[44]⟩ = [44] from rfl]; simp
              have Hs6 : Hid ((u2 ++ ⟨#[44]⟩ ++ u6).size ≤ 100 * i + 1 + 22 * (k + 1) ∧ (u2 ++ ⟨#[44]⟩ ++ u6).size ≤ 810 + 22 * (k + 1)) := by
                have := unhide Hu2s
                show _ ∧ _
                rw [size_app, size_app]; show u2.size + 1 + u6.size ≤ _ ∧ u2.size + 1 + u6.size ≤ _; omega
              have Hb6 := hide (((unhide Hb4).alloc hsz4 _).then' (by simp; omega) hb6)
              clear hu6 hb6
              go_wp2_with fail
              go_roundg (pd.length - (k + 1))
              case measure => omega
              case rel => exact ⟨k + 1, _, by omega, rfl, by go_num, rfl, (unhide Hs6).2, (unhide Hs6).1, unhide Hu6, unhide Hb6⟩
          · obtain rfl : k = pd.length := by omega
            have Hu7 : Hid (L u2 = jn 59 ((rptX cells).take (i + 1))) := unhide Hin _ (unhide HL1) u2 (by rw [unhide Hu2, List.take_of_length_le (by simp [rowX, hwid])])
            have hs7 : u2.size ≤ 100 * (i + 1) := by have := unhide Hu2s; omega
            go_wp2_with fail
            go_roundg (cells.length - (i + 1))
            case measure => omega
            case rel => exact ⟨i + 1, u2, by omega, rfl, by go_num, rfl, hs7, unhide Hu7, unhide Hbw4⟩
    · obtain rfl : i = cells.length := by omega
      have Hfin : Hid (L u = rptT cells) := by
        show _ = _
        rw [unhide Hu]
        unfold rptT
        rw [List.take_of_length_le (by simp [rptX])]
      go_wp2_with fail
      go_ret
      exact ⟨u, rfl, unhide Hfin, unhide Hb3⟩

set_option maxRecDepth 100000 in
set_option maxHeartbeats 8000000 in
theorem sReport_any (Bl p : Nat) (b : Bk) (vp vr : Value) (vs : List Value) (pd : List (List UInt8 × List UInt8)) (pss : List (List Pt)) (B : Nat) (w : World) (hl : Led w Bl p b) (hp : w.ownsRow B 177 2 vp pd.length (cellsD pd)) (hr : RowsAt w B vr vs pss) (hp4 : pd.length ≤ 4) (h8 : pss.length ≤ 8)
    (hrow : ∀ (i : Nat) ps, pss[i]? = some ps → (∃ n e, Wf n e ps) ∧ ∀ x ∈ ps, PtOk i x) (ht : Tab w) :
    Calls Tryz.prog 58 #[.agg #[vp, vr], .pointer (some ⟨p, 0, none⟩)] w fun e w' => ((pss.any (selq (notB b)) = true ∧ e = .returned (.tuple #[.string ⟨#[]⟩, .int .i64 7])) ∨ (pss.any (selq (notB b)) = false ∧ ∃ u, e = .returned (.tuple #[.string u, .int .i64 0]) ∧ L u = rptT (shC b (pdv pd) pss))) ∧ Below w.heap.size w w' := by
  obtain ⟨aop, capp, rfl⟩ := ownsRow_form hp
  obtain ⟨aor, capr, rfl⟩ := ownsRow_form hr.own
  have Hl := hide hl
  have Hp := hide hp
  have Hr := hide hr
  have Hrow := hide hrow
  have Ht := hide ht
  have hvl : vs.length ≤ 8 := by rw [hr.len]; exact h8
  have Hlen := hide hr.len
  obtain ⟨W, hW, B1, hbW, hWs⟩ := one_new w #[.slice aop pd.length capp, .slice aor vs.length capr] 110
  have HB1 := hide B1
  have HbW := hide hbW
  obtain ⟨x0, x1, _, _, lx⟩ := two_cells B1
  have Hha := hide (sHasAccounts_any Bl p b _ vs pss B W (hl.kept hbW) (hr.kept hbW) h8)
  obtain ⟨an, han⟩ : ∃ an, pss.any (selq (notB b)) = an := ⟨_, rfl⟩
  rw [han] at Hha ⊢
  clear hl hp hr hrow ht B1 hbW han
  go_enter Tryz.func58, Tryz.ntmps58
  go_wp2_with fail
  try rw [hW]
  refine (unhide Hha).mono ?_
  rintro e w2 ⟨rfl, hb2⟩
  have Hb2 := hide ((unhide HbW).then' (by omega) hb2)
  have HB2 := hide ((unhide HB1).kept hb2)
  obtain ⟨y0, y1, _, _, ly⟩ := two_cells (unhide HB2)
  have hsz2 := (unhide Hb2).size
  clear hb2 Hha hW x0 x1 lx
  cases an with
  | true =>
    go_wp2_with fail
    go_ret2
    exact ⟨rfl, unhide Hb2⟩
  | false =>
    have Hst : Hid (ShtIn (w2.alloc (.cells #[.slice aop pd.length capp, .pointer (some ⟨p, 0, none⟩), .slice none 0 0] 162)) w2.heap.size w.heap.size b pd [] p (.slice aop pd.length capp) (.slice none 0 0) []) := by
      have hb : Below w.heap.size w (w2.alloc (.cells #[.slice aop pd.length capp, .pointer (some ⟨p, 0, none⟩), .slice none 0 0] 162)) := (unhide Hb2).alloc hsz2 _
      refine ⟨⟨Blk.new _ _ _, ⟨Bl, (unhide Hl).kept hb⟩, ⟨B, ownsRow_below (unhide Hp) hb⟩, GCells.nil _ _, by simp, ⟨hp4, by simp⟩, by simp⟩, hsz2, ?_⟩
      intro w' hb'
      exact ⟨⟨Bl, (unhide Hl).kept (hb.trans hb')⟩, ⟨B, ownsRow_below (unhide Hp) (hb.trans hb')⟩⟩
    have Hst2 : Hid (Below w.heap.size w (w2.alloc (.cells #[.slice aop pd.length capp, .pointer (some ⟨p, 0, none⟩), .slice none 0 0] 162))) := (unhide Hb2).alloc hsz2 _
    go_wp2_with fail
    go_loopg [22] vs.length (fun m i wr => ∃ j : Nat, j ≤ vs.length ∧ m = vs.length - j ∧ i = .int .i64 j ∧ Hid (∃ vc us, ShtIn wr w2.heap.size w.heap.size b pd (shC b (pdv pd) (pss.take j)) p (.slice aop pd.length capp) vc us) ∧ Hid (Below w.heap.size w wr))
    case atStart => exact ⟨0, by omega, rfl, rfl, ⟨_, _, unhide Hst⟩, unhide Hst2⟩
    case round =>
      obtain ⟨j, hj, rfl, rfl, HS, Hb⟩ := hrel
      have hsz := (unhide Hb).size
      by_cases hlt : j < vs.length
      · obtain ⟨v, hv⟩ : ∃ v, vs[j]? = some v := ⟨vs[j], List.getElem?_eq_getElem hlt⟩
        obtain ⟨ps, hps⟩ : ∃ ps, pss[j]? = some ps := ⟨pss[j]'(by have := unhide Hlen; omega), List.getElem?_eq_getElem _⟩
        obtain ⟨g, _, e1, hg, hg'⟩ := ownsRow_some (unhide Hr).own (by omega)
        simp only [Value.slice.injEq, true_and] at e1
        obtain ⟨rfl, rfl⟩ := e1
        have d := ownsRow_cell (ownsRow_below (unhide Hr).own (unhide Hb)) (j := j) hv
        have hrw := (unhide Hr).row j v ps hv hps
        have hpl := (unhide Hr).bd ps (List.mem_of_getElem? hps)
        obtain ⟨aov, capv, rfl⟩ := ownsRow_form hrw
        obtain ⟨hwf, hpt⟩ := unhide Hrow j ps hps
        have hcl : (shC b (pdv pd) (pss.take j)).length = j := by rw [shC_len, List.length_take]; have := unhide Hlen; omega
        have Hsn : Hid (shC b (pdv pd) (pss.take j) ++ [rowP b (pdv pd) (shC b (pdv pd) (pss.take j)) ps pd.length] = shC b (pdv pd) (pss.take (j + 1))) := by
          show _ = _
          rw [shC_snoc hps, show (pdv pd).length = pd.length by simp [pdv]]
        have Hlay : Hid (∀ o : Obj, Calls Tryz.prog 97 #[.pointer (some ⟨w2.heap.size, 0, none⟩), .agg #[.slice aov ps.length capv]] (wr.alloc o) fun e w' => e = .returned (.tuple #[]) ∧ (∃ vc' vs', ShtIn w' w2.heap.size w.heap.size b pd (shC b (pdv pd) (pss.take (j + 1))) p (.slice aop pd.length capp) vc' vs') ∧ Below w.heap.size (wr.alloc o) w') := by
          intro o
          obtain ⟨vc, us, hs⟩ := unhide HS
          have hbo : Below wr.heap.size wr (wr.alloc o) := (Below.refl _ _).alloc (Nat.le_refl _) _
          have := sLay_any w2.heap.size w.heap.size b pd _ p _ vc us _ ps B (wr.alloc o) (hs.kept hbo hsz) (by simp; omega) (ownsRow_below (ownsRow_below hrw (unhide Hb)) hbo) hpl (by rw [hcl]; omega) hwf (by rw [hcl]; exact hpt)
          rw [unhide Hsn] at this
          exact this
        clear hv hps hrw hwf hpt hcl
        go_wp2_with fail
        refine (unhide Hlay _).mono ?_
        rintro e w4 ⟨rfl, hs4, hb4⟩
        have HS4 := hide hs4
        have Hb4 := hide (((unhide Hb).alloc hsz _).trans hb4)
        clear hs4 hb4 Hlay
        go_wp2_with fail
        go_roundg (vs.length - (j + 1))
        case measure => omega
        case rel => exact ⟨j + 1, by omega, rfl, by go_num, unhide HS4, unhide Hb4⟩
      · obtain rfl : j = vs.length := by omega
        have htk : pss.take vs.length = pss := by rw [unhide Hlen]; exact List.take_length
        have Htx : Hid (Calls Tryz.prog 98 #[.pointer (some ⟨w2.heap.size, 0, none⟩)] wr fun e w' => ∃ u : ByteArray, e = .returned (.string u) ∧ L u = rptT (shC b (pdv pd) pss) ∧ Below wr.heap.size wr w') := by
          obtain ⟨vc, us, hs⟩ := unhide HS
          rw [htk] at hs
          exact sText_any w2.heap.size b pd _ wr ⟨_, _, _, _, hs.toShtAt⟩ ((unhide Ht).below (unhide Hb))
        clear htk
        go_wp2_with fail
        refine (unhide Htx).mono ?_
        rintro e w5 ⟨u, rfl, hu, hb5⟩
        have Hu := hide hu
        have Hb5 := hide ((unhide Hb).then' hsz hb5)
        clear hu hb5 Htx
        go_wp2_with fail
        go_ret2
        exact ⟨⟨u, rfl, unhide Hu⟩, unhide Hb5⟩

end Go.Proofs.YtdchbenfccofpaaGreatDoor
namespace Go.Proofs.YtdchbenfccofpaaGreatDoor
open Go.RowKit Db

theorem opnd_ptOk {e : List UInt8} {ps : List Pt} (h : Opnd e ps) : ∀ p ∈ ps, inR p.2 = true := by
  rcases h with ⟨_, hl, hd, rfl⟩ | ⟨c, ds, rfl, _, hd, hk, rfl⟩
  · intro p hp
    simp only [List.mem_singleton] at hp
    subst hp
    exact val_in hl hd
  · intro p hp
    simp only [List.mem_singleton] at hp
    subst hp
    refine val_in ?_ hd
    rcases hk with ⟨_, h⟩ | ⟨_, h⟩ <;> omega
theorem wf_inR {n : Nat} : ∀ {e : List UInt8} {ps : List Pt}, Wf n e ps → ∀ p ∈ ps, inR p.2 = true := by
  induction n with
  | zero => intro e ps h; exact absurd h (by simp [Wf])
  | succ n ih =>
    intro e ps h
    rcases h with ⟨_, h⟩ | ⟨_, h2⟩ | ⟨_, p, h2, rfl⟩ | ⟨h1, p, r, h2, h3, rfl⟩
    · exact opnd_ptOk h
    · exact ih h2
    · intro x hx
      simp at hx
      rcases hx with hx | rfl
      · exact ih h2 x hx
      · rfl
    · intro x hx
      simp at hx
      rcases hx with hx | hx | rfl
      · exact ih h2 x hx
      · exact ih h3 x hx
      · rfl
theorem ptOk_of {t : ByteArray} {pd : List (List UInt8 × List UInt8)} {rows : List (List UInt8)} {pss : List (List Pt)} {pl : Int} (hf : Db.Form (L t) pd rows pss) (ho : outc (pdv pd) pss = (0, pl)) : ∀ (i : Nat) ps, pss[i]? = some ps → (∃ n e, Wf n e ps) ∧ ∀ x ∈ ps, PtOk i x := by
  intro i ps hps
  obtain ⟨e, he⟩ : ∃ e, rows[i]? = some e := by
    have h1 := (List.getElem?_eq_some_iff.1 hps).1
    exact ⟨rows[i]'(by rw [hf.len]; exact h1), List.getElem?_eq_getElem _⟩
  have h := hf.row i e ps he hps
  obtain ⟨n, hn⟩ := h.wf
  refine ⟨⟨n, e, hn⟩, fun x hx => ⟨wf_inR hn x hx, fun hold => ⟨h.pos x hx, ?_⟩⟩⟩
  have h1 := badN_all pss 0 (by omega) (outc_few ho rfl).2.2.2 i ps hps
  exact nameB_lt h1 h.pos i (by omega) x hx hold

set_option maxRecDepth 100000 in
set_option maxHeartbeats 2000000 in
theorem dayReport_any (Bl p : Nat) (b : Bk) (s : ByteArray) (w : World) (hl : Led w Bl p b) (hm : s.size ≤ maxLen) (ht : Tab w) :
    Calls Tryz.prog 27 #[.pointer (some ⟨p, 0, none⟩), .string s] w fun e w' => ∃ (u : ByteArray) (er : Int), e = .returned (.tuple #[.string u, .int .i64 er]) ∧ RepIs b s u er ∧ Below w.heap.size w w' := by
  have hpl : p < w.heap.size := by obtain ⟨_, _, _, _, h⟩ := hl; exact h.blk.lt
  by_cases hs : 200 < s.size
  · clear hl ht
    go_enter Tryz.func27, Tryz.ntmps27
    go_wp2_with fail
    refine (read_long s _ hs hm).mono ?_
    rintro e w1 ⟨rfl, hb⟩
    have Hb := hide hb
    have hsz := hb.size
    clear hb
    go_wp2_with fail
    go_ret2
    exact ⟨_, 1, rfl, .inl ⟨hs, rfl, rfl⟩, (unhide Hb).alloc hsz _⟩
  · have hs' : s.size ≤ 200 := by omega
    have Ht := hide ht
    have Hl := hide hl
    clear ht hl
    go_enter Tryz.func27, Tryz.ntmps27
    go_wp2_with fail
    refine (read_short s _ hs').mono ?_
    rintro e w1 ⟨hb, ⟨pp, rfl, hp, hp0⟩ | ⟨vp, vr, pd, rows, pss, er, pl, rfl, hf, ho, hz, hok⟩⟩
    · have Hb := hide hb
      have hsz := hb.size
      have Hc : Hid (RepIs b s ⟨#[]⟩ 2) := .inr (.inl ⟨hs', rfl, by rw [hp]; exact hp0, rfl⟩)
      clear hb hp
      go_wp2_with fail
      go_ret2
      exact ⟨_, 2, rfl, unhide Hc, (unhide Hb).alloc hsz _⟩
    · have Hb := hide hb
      have hsz := hb.size
      by_cases h0 : er = 0
      · subst h0
        obtain ⟨hvp, vs, hvr⟩ := hok rfl
        obtain ⟨a1, k1, rfl⟩ := ownsRow_form hvp
        obtain ⟨a2, k2, rfl⟩ := ownsRow_form hvr.own
        have hsm := outc_few ho rfl
        have hpl4 : pd.length ≤ 4 := by have := hsm.1; simpa [pdv] using this
        obtain ⟨W, hW, B1, hbW, hWs⟩ := one_new w1 #[.slice a1 pd.length k1, .slice a2 vs.length k2] 110
        obtain ⟨x0, x1, _, _, lx⟩ := two_cells B1
        have HbW := hide (hb.then' hsz hbW)
        have hpW : p < W.heap.size := by omega
        have Hrp := hide (fun (wx : World) (hbx : Below W.heap.size W wx) => sReport_any Bl p b (.slice a1 pd.length k1) (.slice a2 vs.length k2) vs pd pss w.heap.size wx ((unhide Hl).kept ((unhide HbW).then' (by omega) hbx)) (ownsRow_below (ownsRow_below hvp hbW) hbx) ((hvr.kept hbW).kept hbx) hpl4 hsm.2.1 (ptOk_of hf ho) ((unhide Ht).below ((unhide HbW).then' (by omega) hbx)))
        have Hfo : Hid (∀ u er, ((pss.any (selq (notB b)) = true ∧ er = 7 ∧ u = ⟨#[]⟩) ∨ (pss.any (selq (notB b)) = false ∧ er = 0 ∧ L u = rptT (shC b (pdv pd) pss))) → RepIs b s u er) := fun u er h => .inr (.inr ⟨hs', pd, rows, pss, 0, pl, hf, ho, by
          rcases h with ⟨h1, h2, h3⟩ | ⟨h1, h2, h3⟩
          · exact .inr (.inl ⟨rfl, h1, h2, h3⟩)
          · exact .inr (.inr ⟨rfl, h1, h2, h3⟩)⟩)
        have Hrp2 : Hid (∀ (wx : World), Below W.heap.size W wx → Calls Tryz.prog 58 #[.agg #[.slice a1 pd.length k1, .slice a2 vs.length k2], .pointer (some ⟨p, 0, none⟩)] wx fun e w' => ∃ (u : ByteArray) (er : Int), e = .returned (.tuple #[.string u, .int .i64 er]) ∧ RepIs b s u er ∧ Below wx.heap.size wx w') := by
          intro wx hbx
          refine (unhide Hrp wx hbx).mono ?_
          rintro e w' ⟨⟨h1, rfl⟩ | ⟨h1, u, rfl, h2⟩, hb'⟩
          · exact ⟨_, 7, rfl, unhide Hfo _ _ (.inl ⟨h1, rfl, rfl⟩), hb'⟩
          · exact ⟨u, 0, rfl, unhide Hfo _ _ (.inr ⟨h1, rfl, h2⟩), hb'⟩
        clear hb hf ho hz hok hvp hvr hsm B1 hbW Hrp Hfo
        go_upto_region 4 with fail
        try rw [hW]
        clear hW
        go_region_held3 (fun w' => w'.cell? ⟨w1.heap.size, 0, none⟩ = some (.slice a1 pd.length k1) ∧ w'.cell? ⟨w1.heap.size, 1, none⟩ = some (.slice a2 vs.length k2)) (first | go_keep | exact ⟨kept_cell' hb4 (by simp [*]), kept_cell' hb4 (by simp [*])⟩) (first | (go_at_call 58; refine (unhide Hrp2 _ (by exact (Below.refl _ _).drew)).mono ?_; rintro e w4 ⟨u, er, rfl, hu, hb4⟩))
        have Hu := hide hu
        have Hb4 := hide ((unhide HbW).then' (by omega) hb4.undrew)
        clear hu hb4
        go_wp2_with fail
        go_ret2
        exact ⟨u, er, rfl, unhide Hu, unhide Hb4⟩
      · obtain ⟨rfl, rfl⟩ := hz h0
        have Hc : Hid (RepIs b s ⟨#[]⟩ er) := .inr (.inr ⟨hs', pd, rows, pss, er, pl, hf, ho, .inl ⟨h0, rfl, rfl⟩⟩)
        have hne : (er == 0) = false := by simpa using h0
        clear hb hf ho hz hok
        go_wp2_with fail
        go_ret2
        exact ⟨_, er, rfl, unhide Hc, (unhide Hb).alloc hsz _⟩

set_option maxRecDepth 100000 in
set_option maxHeartbeats 2000000 in
theorem refReport_any (B p : Nat) (b : Bk) (s u : ByteArray) (w : World) (h : Rfd w B p b) (hm : s.size ≤ maxLen) (er : Int) (hc : RepIs b s u er) :
    Calls Tryz.prog 124 #[.pointer (some ⟨p, 0, none⟩), .string s] w fun e w' => e = .returned (.tuple #[.string u, .int .i64 er]) ∧ Below w.heap.size w w' := by
  rcases hc with ⟨hs, rfl, rfl⟩ | ⟨hs, rfl, hp, rfl⟩ | ⟨hs, pd, rows, pss, e0, pl, hf, ho, ⟨h0, rfl, rfl⟩ | ⟨rfl, ha, rfl, rfl⟩ | ⟨rfl, ha, rfl, hu⟩⟩
  · clear h
    go_enter Tryz.func124, Tryz.ntmps124
    go_wp2_with fail
    refine (refRead_long s _ hs hm).mono ?_
    rintro e w1 ⟨rfl, hb⟩
    have Hb := hide hb
    have hsz := hb.size
    clear hb
    go_wp2_with fail
    go_ret2
    exact ⟨rfl, (unhide Hb).alloc hsz _⟩
  · obtain ⟨pp, hpp⟩ : ∃ pp, plc 0 0 0 0 (L s) = pp := ⟨_, rfl⟩
    have Hp := hide hp
    have Hpp := hide hpp
    clear hp hpp h
    go_enter Tryz.func124, Tryz.ntmps124
    go_wp2_with fail
    refine (refRead_form s _ hs (unhide Hp)).mono ?_
    rintro e w1 ⟨rfl, hb⟩
    rw [unhide Hpp]
    have Hb := hide hb
    have hsz := hb.size
    clear hb
    go_wp2_with fail
    go_ret2
    exact ⟨rfl, (unhide Hb).alloc hsz _⟩
  · have Hf := hide hf
    have Ho := hide ho
    have hne : (er == 0) = false := by simpa using h0
    clear hf ho h
    go_enter Tryz.func124, Tryz.ntmps124
    go_wp2_with fail
    refine (refRead_ok s _ hs pd rows pss (unhide Hf)).mono ?_
    rintro e w1 ⟨a1, n1, k1, a2, n2, k2, a3, n3, k3, er', pl', rfl, ho', hb, _⟩
    have hh := (unhide Ho).symm.trans ho'
    simp only [Prod.mk.injEq] at hh
    obtain ⟨rfl, rfl⟩ := hh
    have Hb := hide hb
    have hsz := hb.size
    clear hb ho'
    go_wp2_with fail
    go_ret2
    exact ⟨rfl, (unhide Hb).alloc hsz _⟩
  · refine (refReport_ok B p b s w hs pd rows pss pl hf ho h).mono ?_
    rintro e w1 ⟨⟨_, rfl⟩ | ⟨h1, _⟩, hb⟩
    · exact ⟨rfl, hb⟩
    · rw [ha] at h1; cases h1
  · refine (refReport_ok B p b s w hs pd rows pss pl hf ho h).mono ?_
    rintro e w1 ⟨⟨h1, _⟩ | ⟨_, u', rfl, hu'⟩, hb⟩
    · rw [ha] at h1; cases h1
    · obtain rfl : u' = u := L_inj (hu'.trans hu.symm)
      exact ⟨rfl, hb⟩

end Go.Proofs.YtdchbenfccofpaaGreatDoor
namespace Go.Proofs.YtdchbenfccofpaaGreatDoor
open Go.RowKit Db

theorem zero_form {x y : Int} (hx0 : 0 ≤ x) (hxy : x ≤ y) (hy1 : y ≤ 999) {l : List UInt8} (hl : l = Lib.itoa x ++ 45 :: Lib.itoa y ++ [124, 64, 48, 59, 33, 48]) :
    ∃ rows, Db.Form l [(Lib.itoa x, Lib.itoa y)] rows [[(64, 0)], [(33, 0)]] ∧ l.length ≤ 13 := by
  have hd1 := day_dec hx0 (by omega)
  have hd2 := day_dec (n := y) (by omega) hy1
  have hlen : l.length ≤ 13 := by rw [hl]; simp; have := hd1.1.2.1; have := hd2.1.2.1; omega
  have hb : Blanks [] := fun c hc => by cases hc
  have hp : PerEnd l true [64, 48, 59, 33, 48] ([] ++ [(Lib.itoa x, Lib.itoa y)]) := by
    refine (PerSt.start l).bar (y := []) (c := 124) ?_ hb rfl
    have := per_dec hx0 (by omega) (by omega : 0 ≤ y) hy1 (l' := [124, 64, 48, 59, 33, 48]) rfl
    rw [hl]
    simpa using this
  have e1 : Exp [64, 48, 59, 33, 48] true [59, 33, 48] [(64, 0)] := exp_sel (c := 64) (ds := [48]) (l' := [59, 33, 48]) rfl (by simp [digB]) (by simp) (by simp) (.inr rfl)
  have e2 : Exp [33, 48] true [] [(33, 0)] := exp_sel (c := 33) (ds := [48]) (l' := []) rfl (by simp [digB]) (by simp) (by simp) (.inl rfl)
  obtain ⟨r1, h1⟩ := (RowSt.start [64, 48, 59, 33, 48]).semi e1 rfl
  obtain ⟨r2, h2⟩ := h1.fin_yes e2
  exact ⟨_, form_of (by omega) hp h2, hlen⟩
theorem zero_outc {x y : Int} (hx0 : 0 ≤ x) (hxy : x ≤ y) (hy1 : y ≤ 999) : outc (pdv [(Lib.itoa x, Lib.itoa y)]) [[(64, 0)], [(33, 0)]] = (0, 0) := by
  have h1 : badP 0 (pdv [(Lib.itoa x, Lib.itoa y)]) = -1 := by
    unfold pdv
    simp only [List.map_cons, List.map_nil, badP, (day_dec hx0 (by omega)).2, (day_dec (n := y) (by omega) hy1).2]
    rw [if_neg (by omega)]
  unfold outc
  rw [h1]
  rfl
theorem zero_cells {s : Bk} (hg : BkGood s) (hr : Root s) (pd : List (List UInt8 × List UInt8)) (h1 : pd.length = 1) : rptT (shC s (pdv pd) [[(64, 0)], [(33, 0)]]) = [48, 59, 48] := by
  have hl : (pdv pd).length = 1 := by unfold pdv; simpa using h1
  have h2 : ∀ cells k, cel (opE s (pdv pd) cells k) [(64, 0)] = (0, 0) := fun cells k => by
    rw [cel_leaf rfl (by decide)]
    show ((tkT (inA s 64 0) _ _ s.txs).1, (0 : Int)) = (0, 0)
    rw [all_zero hg hr]
  have h3 : ∀ cells k, cel (opE s (pdv pd) cells k) [(33, 0)] = (0, 0) := fun cells k => by
    rw [cel_leaf rfl (by decide)]
    show ((tkT (inA s 33 0) _ _ s.txs).1, (0 : Int)) = (0, 0)
    rw [own_zero hg]
  unfold shC rowC
  simp only [List.foldl_cons, List.foldl_nil, h2, h3, hl, List.range_one, List.map_cons, List.map_nil, List.nil_append]
  unfold rptT rptX rowX cellT
  simp [jn, Lib.itoa, Lib.decDigits_one]

set_option maxRecDepth 100000 in
set_option maxHeartbeats 4000000 in
theorem zero_walk (v : Value) (xs : List KAct) (c d : Int) (w : World) (h : KActsAt w w.heap.size v xs) (hlen : xs.length ≤ 9223372036854775800) (hc0 : -9223372036854775808 ≤ c) (hc1 : c ≤ 9223372036854775807) (hd0 : -9223372036854775808 ≤ d) (hd1 : d ≤ 9223372036854775807) (ht : Tab w) :
    Calls Tryz.prog 8 #[v, .int .i64 c, .int .i64 d] w fun e w' => e = .returned (.bool true) ∧ Below w.heap.size w w' := by
  obtain ⟨ao, cap, rfl⟩ : ∃ ao cap, v = .slice ao xs.length cap := by obtain ⟨⟨ao, cap, rfl, _⟩, _⟩ := h; exact ⟨ao, cap, rfl⟩
  have H := hide h
  have Ht := hide ht
  obtain ⟨hgood, hroot⟩ := krun_root xs rdy rdy_root.1 rdy_root.2
  have Hgood := hide hgood
  have Hroot := hide hroot
  clear h ht hgood hroot
  go_enter Tryz.func8, Tryz.ntmps8
  go_wp2_with fail
  refine (kplayed_any _ xs w (unhide H) hlen (unhide Ht)).mono ?_
  rintro e w1 ⟨q, p, rfl, h1, hb1⟩
  have H1 := hide h1
  have Hb1 := hide hb1
  clear h1 hb1
  go_wp2_with fail
  refine (kdays_any c d _ hc0 hc1 hd0 hd1).mono ?_
  rintro e w2 ⟨x, y, rfl, hx0, hxy, hy1, rfl⟩
  go_wp2_with fail
  refine (kperiod_any x y _ hx0 (by omega) (by omega) hy1 ((unhide Ht).below (unhide Hb1))).mono ?_
  rintro e w3 ⟨u, rfl, hu, hus, hb3⟩
  have Hu := hide hu
  have H3 := hide ((unhide H1).kept hb3)
  have Hb3 := hide ((unhide Hb1).then hb3)
  clear hu hb3
  go_wp2_with fail
  have hL : L (u ++ ⟨#[124, 64, 48, 59, 33, 48]⟩) = Lib.itoa x ++ 45 :: Lib.itoa y ++ [124, 64, 48, 59, 33, 48] := by rw [L_append, unhide Hu]; rfl
  have hsz : (u ++ ⟨#[124, 64, 48, 59, 33, 48]⟩ : ByteArray).size ≤ 200 := by rw [ByteArray.size_append]; show u.size + 6 ≤ 200; omega
  have HL := hide hL
  have hmx : (u ++ ⟨#[124, 64, 48, 59, 33, 48]⟩ : ByteArray).size ≤ maxLen := by unfold maxLen; omega
  refine (dayReport_any w.heap.size p _ _ w3 (unhide H3).led.led hmx ((unhide Ht).below (unhide Hb3))).mono ?_
  rintro e w4 ⟨r, er, rfl, hr, hb4⟩
  obtain ⟨rows, hf, _⟩ := zero_form hx0 hxy hy1 (unhide HL)
  have hre := rep_is hr hsz hf (zero_outc hx0 hxy hy1) (by
    have hn : notB (krun rdy xs).s 0 = false := by
      unfold notB ther
      have := (unhide Hgood).one
      simp; omega
    simp [selq, selB, hn])
  rw [zero_cells (unhide Hgood) (unhide Hroot) _ rfl] at hre
  obtain ⟨rfl, hru⟩ := hre
  obtain rfl : r = ⟨#[48, 59, 48]⟩ := L_inj hru
  have Hb4 := hide ((unhide Hb3).then hb4)
  clear hr hb4 hru hf hL hsz hmx
  go_wp2_with fail
  go_ret
  exact ⟨rfl, unhide Hb4⟩

end Go.Proofs.YtdchbenfccofpaaGreatDoor
