/- Reports: the program's sheet as a text; the program's Report. Reports: the program's Report and the document's answer the same. Codes: the program's Compile. Codes: what Coded asks of the program's code: pure part. Codes: the document takes the program's code. Codes: the document takes every answer of Compile; the law's compiled. Compiles: the law's walk. -/
import Derived.Test.YtdchbenfccofpaaGreatDoorC15
import Derived.Test.YtdchbenfccofpaaGreatDoorC13
import Derived.Test.YtdchbenfccofpaaGreatDoorC06
namespace Go.Proofs.YtdchbenfccofpaaGreatDoor
open Go.RowKit Db

set_option maxRecDepth 100000 in
set_option maxHeartbeats 8000000 in
theorem sText_any (q : Nat) (b : Bk) (pd : List (List UInt8 × List UInt8)) (cells : List (List Cl)) (w : World) (h : Sht' w q b pd cells) (ht : Tab w) :
    Calls Tryz.prog 98 #[.pointer (some ⟨q, 0, none⟩)] w fun e w' => ∃ u : ByteArray, e = .returned (.string u) ∧ L u = rptT cells ∧ Below w.heap.size w w' := by
  obtain ⟨p, vp, vc, vs, h⟩ := h
  obtain ⟨aoc, capc, rfl⟩ := ownsRow_form h.cs.own
  obtain ⟨c0, c1, c2⟩ := three_cells h.blk
  have hvl : vs.length = cells.length := h.cs.len
  have hc8 : cells.length ≤ 8 := h.few.2
  have hp4 : pd.length ≤ 4 := h.few.1
  rw [hvl] at c2
  have HG := hide h
  have Ht := hide ht
  clear h ht
  go_enter Tryz.func98, Tryz.ntmps98
  go_wp2_with fail
  go_loopg [3, 13] cells.length (fun m tv i wx => ∃ j : Nat, ∃ u : ByteArray, j ≤ cells.length ∧ m = cells.length - j ∧ i = .int .i64 j ∧ tv = .string u ∧ u.size ≤ 100 * j ∧ Hid (L u = jn 59 ((rptX cells).take j)) ∧ Hid (Below w.heap.size w wx))
  case atStart => exact ⟨0, ⟨#[]⟩, by omega, rfl, rfl, rfl, Nat.zero_le _, rfl, Below.refl _ _⟩
  case round =>
    obtain ⟨i, u, hi, rfl, rfl, rfl, hus, Hu, Hb3⟩ := hrel
    have hsz3 := (unhide Hb3).size
    by_cases hlt2 : i < cells.length
    · obtain ⟨row, hrow⟩ : ∃ row, cells[i]? = some row := ⟨cells[i], List.getElem?_eq_getElem hlt2⟩
      have hwid : row.length = pd.length := (unhide HG).wid row (List.mem_of_getElem? hrow)
      have Hok := hide ((unhide HG).ok row (List.mem_of_getElem? hrow))
      have HX : Hid ((rptX cells)[i]? = some (jn 44 (rowX row))) := by show _ = _; unfold rptX; rw [List.getElem?_map, hrow]; rfl
      obtain ⟨v, hv⟩ : ∃ v, vs[i]? = some v := ⟨vs[i]'(by omega), List.getElem?_eq_getElem _⟩
      have hR0 := (unhide HG).cs.row i v row hv hrow
      rw [hwid] at hR0
      have HR := hide hR0
      obtain ⟨aor, capr, rfl⟩ := ownsRow_form (unhide HR)
      obtain ⟨gc, _, e1, hgc, hgc'⟩ := ownsRow_some (unhide HG).cs.own (by omega)
      simp only [Value.slice.injEq] at e1
      obtain ⟨rfl, _, rfl⟩ := e1
      have dd0 := ownsRow_cell (unhide HG).cs.own (j := i) hv
      have dd := kept_cell' (unhide Hb3) dd0
      have Hin : Hid (∀ u1 : ByteArray, L u1 = jpre 59 (rptX cells) i → ∀ u2 : ByteArray, L u2 = jpre 59 (rptX cells) i ++ jn 44 (rowX row) → L u2 = jn 59 ((rptX cells).take (i + 1))) := by
        intro u1 h1 u2 h2
        rw [jn_pre (unhide HX), h2]
      have Hstart : Hid (∃ u1 : ByteArray, u1 = (if i = 0 then u else u ++ ⟨#[59]⟩) ∧ L u1 = jpre 59 (rptX cells) i ∧ u1.size ≤ 100 * i + 1) := by
        refine ⟨_, rfl, ?_, ?_⟩
        · by_cases h0 : i = 0
          · subst h0; rw [if_pos rfl, jpre_zero]; have := unhide Hu; simpa [jn] using this
          · rw [if_neg h0, L_append, unhide Hu, jpre_pos (by omega)]; rfl
        · by_cases h0 : i = 0
          · rw [if_pos h0]; omega
          · rw [if_neg h0, size_L, L_append, List.length_append, L_length]; show u.size + 1 ≤ _; omega
      obtain ⟨u1, hu1, hL1, hs1⟩ := unhide Hstart
      have HL1 := hide hL1
      have hin : (i : Int) < (cells.length : Int) := by omega
      clear Hstart hL1 hrow hv hR0 dd0
      by_cases h0 : i = 0
      · have hpos : ¬ (0 : Int) < (i : Int) := by omega
        rw [if_pos h0] at hu1
        clear h0
        go_wp2_with fail
        obtain ⟨W3, hW3⟩ : ∃ W3, wr = W3 := ⟨_, rfl⟩
        rw [hW3] at Hb3 hsz3 ⊢
        clear hW3 dd
        go_loopg [3, 24] pd.length (fun m tv iv wx => ∃ k : Nat, ∃ u : ByteArray, k ≤ pd.length ∧ m = pd.length - k ∧ iv = .int .i64 k ∧ tv = .string u ∧ u.size ≤ 810 + 22 * k ∧ Hid (u.size ≤ 100 * i + 1 + 22 * k) ∧ Hid (L u = jpre 59 (rptX cells) i ++ jn 44 ((rowX row).take k)) ∧ Hid (Below W3.heap.size W3 wx))
        case atStart => exact ⟨0, u, by omega, rfl, rfl, rfl, by rw [← hu1]; omega, (show _ ≤ _ from by rw [← hu1]; omega), (show _ = _ from by rw [← hu1, unhide HL1]; simp [jn]), Below.refl _ _⟩
        case round =>
          obtain ⟨k, u2, hk, rfl, rfl, rfl, hu2s, Hu2s, Hu2, Hb4⟩ := hrel
          have hsz4 := (unhide Hb4).size
          have Hbw4 := hide ((unhide Hb3).then' hsz3 (unhide Hb4))
          by_cases hlk : k < pd.length
          · obtain ⟨c, hc⟩ : ∃ c, row[k]? = some c := ⟨row[k]'(by omega), List.getElem?_eq_getElem _⟩
            have hro := ownsRow_below (unhide HR) (unhide Hbw4)
            obtain ⟨gr, _, e1, hgr, hgr'⟩ := ownsRow_some hro (by omega)
            simp only [Value.slice.injEq, true_and] at e1
            obtain ⟨rfl, rfl⟩ := e1
            have h2 := two_get (fun c : Cl => Value.int .i64 (gst c.2)) (fun c => Value.int .i64 c.1) row k c hc
            have d1 := ownsRow_cell hro (j := k * 2) h2.1
            have d2 := ownsRow_cell hro (j := k * 2 + 1) h2.2
            have Hoc := hide (unhide Hok c (List.mem_of_getElem? hc))
            have Hxc : Hid ((rowX row)[k]? = some (cellT c)) := by show _ = _; unfold rowX; rw [List.getElem?_map, hc]; rfl
            have Htx := hide (fun (wx : World) (hb : Below w.heap.size w wx) => gText_any c wx (unhide Hoc) ((unhide Ht).below hb))
            obtain ⟨c1, c2⟩ := c
            unfold gV at Htx
            simp only at d1 d2 Htx
            obtain ⟨z, hz⟩ : ∃ z, gst c2 = z := ⟨_, rfl⟩
            rw [hz] at d1 Htx
            have hszw := (unhide Hbw4).size
            clear hro h2 hc hz
            by_cases hk0 : k = 0
            · have hk1 : ¬ (0 : Int) < (k : Int) := by omega
              have Hk0 := hide hk0
              clear hk0
              go_wp2_with fail
              refine (unhide Htx _ (by exact (unhide Hbw4).alloc hszw _)).mono ?_
              rintro e w6 ⟨u6, rfl, hu6, hs6, hb6⟩
              have Hu6 : Hid (L (u2 ++ u6) = jpre 59 (rptX cells) i ++ jn 44 ((rowX row).take (k + 1))) := by
                show _ = _
                rw [L_append, unhide Hu2, hu6, jn_pre (unhide Hxc), unhide Hk0, jpre_zero]; simp [jn]
              have Hs6 : Hid ((u2 ++ u6).size ≤ 100 * i + 1 + 22 * (k + 1) ∧ (u2 ++ u6).size ≤ 810 + 22 * (k + 1)) := by
                have := unhide Hu2s
                show _ ∧ _
                rw [size_app]; omega
              have Hb6 := hide (((unhide Hb4).alloc hsz4 _).then' (by simp; omega) hb6)
              clear hu6 hb6
              go_wp2_with fail
              go_roundg (pd.length - (k + 1))
              case measure => omega
              case rel => exact ⟨k + 1, _, by omega, rfl, by go_num, rfl, (unhide Hs6).2, (unhide Hs6).1, unhide Hu6, unhide Hb6⟩
            · have hk1 : (0 : Int) < (k : Int) := by omega
              go_wp2_with fail
              refine (unhide Htx _ (by exact (unhide Hbw4).alloc hszw _)).mono ?_
              rintro e w6 ⟨u6, rfl, hu6, hs6, hb6⟩
              have Hu6 : Hid (L (u2 ++ ⟨#[44]⟩ ++ u6) = jpre 59 (rptX cells) i ++ jn 44 ((rowX row).take (k + 1))) := by
                show _ = _
                rw [L_append, L_append, unhide Hu2, hu6, jn_pre (unhide Hxc), jpre_pos (sep := 44) (i := k) (by omega), show L ⟨#[44]⟩ = [44] from rfl]; simp
              have Hs6 : Hid ((u2 ++ ⟨#[44]⟩ ++ u6).size ≤ 100 * i + 1 + 22 * (k + 1) ∧ (u2 ++ ⟨#[44]⟩ ++ u6).size ≤ 810 + 22 * (k + 1)) := by
                have := unhide Hu2s
                show _ ∧ _
                rw [size_app, size_app]; show u2.size + 1 + u6.size ≤ _ ∧ u2.size + 1 + u6.size ≤ _; omega
              have Hb6 := hide (((unhide Hb4).alloc hsz4 _).then' (by simp; omega) hb6)
              clear hu6 hb6
              go_wp2_with fail
              go_roundg (pd.length - (k + 1))
              case measure => omega
              case rel => exact ⟨k + 1, _, by omega, rfl, by go_num, rfl, (unhide Hs6).2, (unhide Hs6).1, unhide Hu6, unhide Hb6⟩
          · obtain rfl : k = pd.length := by omega
            have Hu7 : Hid (L u2 = jn 59 ((rptX cells).take (i + 1))) := unhide Hin _ (unhide HL1) u2 (by rw [unhide Hu2, List.take_of_length_le (by simp [rowX, hwid])])
            have hs7 : u2.size ≤ 100 * (i + 1) := by have := unhide Hu2s; omega
            go_wp2_with fail
            go_roundg (cells.length - (i + 1))
            case measure => omega
            case rel => exact ⟨i + 1, u2, by omega, rfl, by go_num, rfl, hs7, unhide Hu7, unhide Hbw4⟩
      · have hpos : (0 : Int) < (i : Int) := by omega
        have hposN : decide (0 < i) = true := by simp; omega
        rw [if_neg h0] at hu1
        clear h0
        go_wp2_with fail
        obtain ⟨W3, hW3⟩ : ∃ W3, wr = W3 := ⟨_, rfl⟩
        rw [hW3] at Hb3 hsz3 ⊢
        clear hW3 dd
        go_loopg [3, 24] pd.length (fun m tv iv wx => ∃ k : Nat, ∃ u : ByteArray, k ≤ pd.length ∧ m = pd.length - k ∧ iv = .int .i64 k ∧ tv = .string u ∧ u.size ≤ 810 + 22 * k ∧ Hid (u.size ≤ 100 * i + 1 + 22 * k) ∧ Hid (L u = jpre 59 (rptX cells) i ++ jn 44 ((rowX row).take k)) ∧ Hid (Below W3.heap.size W3 wx))
        case atStart => exact ⟨0, (u ++ ⟨#[59]⟩), by omega, rfl, rfl, rfl, by rw [← hu1]; omega, (show _ ≤ _ from by rw [← hu1]; omega), (show _ = _ from by rw [← hu1, unhide HL1]; simp [jn]), Below.refl _ _⟩
        case round =>
          obtain ⟨k, u2, hk, rfl, rfl, rfl, hu2s, Hu2s, Hu2, Hb4⟩ := hrel
          have hsz4 := (unhide Hb4).size
          have Hbw4 := hide ((unhide Hb3).then' hsz3 (unhide Hb4))
          by_cases hlk : k < pd.length
          · obtain ⟨c, hc⟩ : ∃ c, row[k]? = some c := ⟨row[k]'(by omega), List.getElem?_eq_getElem _⟩
            have hro := ownsRow_below (unhide HR) (unhide Hbw4)
            obtain ⟨gr, _, e1, hgr, hgr'⟩ := ownsRow_some hro (by omega)
            simp only [Value.slice.injEq, true_and] at e1
            obtain ⟨rfl, rfl⟩ := e1
            have h2 := two_get (fun c : Cl => Value.int .i64 (gst c.2)) (fun c => Value.int .i64 c.1) row k c hc
            have d1 := ownsRow_cell hro (j := k * 2) h2.1
            have d2 := ownsRow_cell hro (j := k * 2 + 1) h2.2
            have Hoc := hide (unhide Hok c (List.mem_of_getElem? hc))
            have Hxc : Hid ((rowX row)[k]? = some (cellT c)) := by show _ = _; unfold rowX; rw [List.getElem?_map, hc]; rfl
            have Htx := hide (fun (wx : World) (hb : Below w.heap.size w wx) => gText_any c wx (unhide Hoc) ((unhide Ht).below hb))
            obtain ⟨c1, c2⟩ := c
            unfold gV at Htx
            simp only at d1 d2 Htx
            obtain ⟨z, hz⟩ : ∃ z, gst c2 = z := ⟨_, rfl⟩
            rw [hz] at d1 Htx
            have hszw := (unhide Hbw4).size
            clear hro h2 hc hz
            by_cases hk0 : k = 0
            · have hk1 : ¬ (0 : Int) < (k : Int) := by omega
              have Hk0 := hide hk0
              clear hk0
              go_wp2_with fail
              refine (unhide Htx _ (by exact (unhide Hbw4).alloc hszw _)).mono ?_
              rintro e w6 ⟨u6, rfl, hu6, hs6, hb6⟩
              have Hu6 : Hid (L (u2 ++ u6) = jpre 59 (rptX cells) i ++ jn 44 ((rowX row).take (k + 1))) := by
                show _ = _
                rw [L_append, unhide Hu2, hu6, jn_pre (unhide Hxc), unhide Hk0, jpre_zero]; simp [jn]
              have Hs6 : Hid ((u2 ++ u6).size ≤ 100 * i + 1 + 22 * (k + 1) ∧ (u2 ++ u6).size ≤ 810 + 22 * (k + 1)) := by
                have := unhide Hu2s
                show _ ∧ _
                rw [size_app]; omega
              have Hb6 := hide (((unhide Hb4).alloc hsz4 _).then' (by simp; omega) hb6)
              clear hu6 hb6
              go_wp2_with fail
              go_roundg (pd.length - (k + 1))
              case measure => omega
              case rel => exact ⟨k + 1, _, by omega, rfl, by go_num, rfl, (unhide Hs6).2, (unhide Hs6).1, unhide Hu6, unhide Hb6⟩
            · have hk1 : (0 : Int) < (k : Int) := by omega
              go_wp2_with fail
              refine (unhide Htx _ (by exact (unhide Hbw4).alloc hszw _)).mono ?_
              rintro e w6 ⟨u6, rfl, hu6, hs6, hb6⟩
              have Hu6 : Hid (L (u2 ++ ⟨#[44]⟩ ++ u6) = jpre 59 (rptX cells) i ++ jn 44 ((rowX row).take (k + 1))) := by
                show _ = _
                rw [L_append, L_append, unhide Hu2, hu6, jn_pre (unhide Hxc), jpre_pos (sep := 44) (i := k) (by omega), show L ⟨#[44]⟩ = [44] from rfl]; simp
              have Hs6 : Hid ((u2 ++ ⟨#[44]⟩ ++ u6).size ≤ 100 * i + 1 + 22 * (k + 1) ∧ (u2 ++ ⟨#[44]⟩ ++ u6).size ≤ 810 + 22 * (k + 1)) := by
                have := unhide Hu2s
                show _ ∧ _
                rw [size_app, size_app]; show u2.size + 1 + u6.size ≤ _ ∧ u2.size + 1 + u6.size ≤ _; omega
              have Hb6 := hide (((unhide Hb4).alloc hsz4 _).then' (by simp; omega) hb6)
              clear hu6 hb6
              go_wp2_with fail
              go_roundg (pd.length - (k + 1))
              case measure => omega
              case rel => exact ⟨k + 1, _, by omega, rfl, by go_num, rfl, (unhide Hs6).2, (unhide Hs6).1, unhide Hu6, unhide Hb6⟩
          · obtain rfl : k = pd.length := by omega
            have Hu7 : Hid (L u2 = jn 59 ((rptX cells).take (i + 1))) := unhide Hin _ (unhide HL1) u2 (by rw [unhide Hu2, List.take_of_length_le (by simp [rowX, hwid])])
            have hs7 : u2.size ≤ 100 * (i + 1) := by have := unhide Hu2s; omega
            go_wp2_with fail
            go_roundg (cells.length - (i + 1))
            case measure => omega
            case rel => exact ⟨i + 1, u2, by omega, rfl, by go_num, rfl, hs7, unhide Hu7, unhide Hbw4⟩
    · obtain rfl : i = cells.length := by omega
      have Hfin : Hid (L u = rptT cells) := by
        show _ = _
        rw [unhide Hu]
        unfold rptT
        rw [List.take_of_length_le (by simp [rptX])]
      go_wp2_with fail
      go_ret
      exact ⟨u, rfl, unhide Hfin, unhide Hb3⟩

set_option maxRecDepth 100000 in
set_option maxHeartbeats 8000000 in
theorem sReport_any (Bl p : Nat) (b : Bk) (vp vr : Value) (vs : List Value) (pd : List (List UInt8 × List UInt8)) (pss : List (List Pt)) (B : Nat) (w : World) (hl : Led w Bl p b) (hp : w.ownsRow B 177 2 vp pd.length (cellsD pd)) (hr : RowsAt w B vr vs pss) (hp4 : pd.length ≤ 4) (h8 : pss.length ≤ 8)
    (hrow : ∀ (i : Nat) ps, pss[i]? = some ps → (∃ n e, Wf n e ps) ∧ ∀ x ∈ ps, PtOk i x) (ht : Tab w) :
    Calls Tryz.prog 58 #[.agg #[vp, vr], .pointer (some ⟨p, 0, none⟩)] w fun e w' => ((pss.any (selq (notB b)) = true ∧ e = .returned (.tuple #[.string ⟨#[]⟩, .int .i64 7])) ∨ (pss.any (selq (notB b)) = false ∧ ∃ u, e = .returned (.tuple #[.string u, .int .i64 0]) ∧ L u = rptT (shC b (pdv pd) pss))) ∧ Below w.heap.size w w' := by
  obtain ⟨aop, capp, rfl⟩ := ownsRow_form hp
  obtain ⟨aor, capr, rfl⟩ := ownsRow_form hr.own
  have Hl := hide hl
  have Hp := hide hp
  have Hr := hide hr
  have Hrow := hide hrow
  have Ht := hide ht
  have hvl : vs.length ≤ 8 := by rw [hr.len]; exact h8
  have Hlen := hide hr.len
  obtain ⟨W, hW, B1, hbW, hWs⟩ := one_new w #[.slice aop pd.length capp, .slice aor vs.length capr] 110
  have HB1 := hide B1
  have HbW := hide hbW
  obtain ⟨x0, x1, _, _, lx⟩ := two_cells B1
  have Hha := hide (sHasAccounts_any Bl p b _ vs pss B W (hl.kept hbW) (hr.kept hbW) h8)
  obtain ⟨an, han⟩ : ∃ an, pss.any (selq (notB b)) = an := ⟨_, rfl⟩
  rw [han] at Hha ⊢
  clear hl hp hr hrow ht B1 hbW han
  go_enter Tryz.func58, Tryz.ntmps58
  go_wp2_with fail
  try rw [hW]
  refine (unhide Hha).mono ?_
  rintro e w2 ⟨rfl, hb2⟩
  have Hb2 := hide ((unhide HbW).then' (by omega) hb2)
  have HB2 := hide ((unhide HB1).kept hb2)
  obtain ⟨y0, y1, _, _, ly⟩ := two_cells (unhide HB2)
  have hsz2 := (unhide Hb2).size
  clear hb2 Hha hW x0 x1 lx
  cases an with
  | true =>
    go_wp2_with fail
    go_ret2
    exact ⟨rfl, unhide Hb2⟩
  | false =>
    have Hst : Hid (ShtIn (w2.alloc (.cells #[.slice aop pd.length capp, .pointer (some ⟨p, 0, none⟩), .slice none 0 0] 162)) w2.heap.size w.heap.size b pd [] p (.slice aop pd.length capp) (.slice none 0 0) []) := by
      have hb : Below w.heap.size w (w2.alloc (.cells #[.slice aop pd.length capp, .pointer (some ⟨p, 0, none⟩), .slice none 0 0] 162)) := (unhide Hb2).alloc hsz2 _
      refine ⟨⟨Blk.new _ _ _, ⟨Bl, (unhide Hl).kept hb⟩, ⟨B, ownsRow_below (unhide Hp) hb⟩, GCells.nil _ _, by simp, ⟨hp4, by simp⟩, by simp⟩, hsz2, ?_⟩
      intro w' hb'
      exact ⟨⟨Bl, (unhide Hl).kept (hb.trans hb')⟩, ⟨B, ownsRow_below (unhide Hp) (hb.trans hb')⟩⟩
    have Hst2 : Hid (Below w.heap.size w (w2.alloc (.cells #[.slice aop pd.length capp, .pointer (some ⟨p, 0, none⟩), .slice none 0 0] 162))) := (unhide Hb2).alloc hsz2 _
    go_wp2_with fail
    go_loopg [22] vs.length (fun m i wr => ∃ j : Nat, j ≤ vs.length ∧ m = vs.length - j ∧ i = .int .i64 j ∧ Hid (∃ vc us, ShtIn wr w2.heap.size w.heap.size b pd (shC b (pdv pd) (pss.take j)) p (.slice aop pd.length capp) vc us) ∧ Hid (Below w.heap.size w wr))
    case atStart => exact ⟨0, by omega, rfl, rfl, ⟨_, _, unhide Hst⟩, unhide Hst2⟩
    case round =>
      obtain ⟨j, hj, rfl, rfl, HS, Hb⟩ := hrel
      have hsz := (unhide Hb).size
      by_cases hlt : j < vs.length
      · obtain ⟨v, hv⟩ : ∃ v, vs[j]? = some v := ⟨vs[j], List.getElem?_eq_getElem hlt⟩
        obtain ⟨ps, hps⟩ : ∃ ps, pss[j]? = some ps := ⟨pss[j]'(by have := unhide Hlen; omega), List.getElem?_eq_getElem _⟩
        obtain ⟨g, _, e1, hg, hg'⟩ := ownsRow_some (unhide Hr).own (by omega)
        simp only [Value.slice.injEq, true_and] at e1
        obtain ⟨rfl, rfl⟩ := e1
        have d := ownsRow_cell (ownsRow_below (unhide Hr).own (unhide Hb)) (j := j) hv
        have hrw := (unhide Hr).row j v ps hv hps
        have hpl := (unhide Hr).bd ps (List.mem_of_getElem? hps)
        obtain ⟨aov, capv, rfl⟩ := ownsRow_form hrw
        obtain ⟨hwf, hpt⟩ := unhide Hrow j ps hps
        have hcl : (shC b (pdv pd) (pss.take j)).length = j := by rw [shC_len, List.length_take]; have := unhide Hlen; omega
        have Hsn : Hid (shC b (pdv pd) (pss.take j) ++ [rowP b (pdv pd) (shC b (pdv pd) (pss.take j)) ps pd.length] = shC b (pdv pd) (pss.take (j + 1))) := by
          show _ = _
          rw [shC_snoc hps, show (pdv pd).length = pd.length by simp [pdv]]
        have Hlay : Hid (∀ o : Obj, Calls Tryz.prog 97 #[.pointer (some ⟨w2.heap.size, 0, none⟩), .agg #[.slice aov ps.length capv]] (wr.alloc o) fun e w' => e = .returned (.tuple #[]) ∧ (∃ vc' vs', ShtIn w' w2.heap.size w.heap.size b pd (shC b (pdv pd) (pss.take (j + 1))) p (.slice aop pd.length capp) vc' vs') ∧ Below w.heap.size (wr.alloc o) w') := by
          intro o
          obtain ⟨vc, us, hs⟩ := unhide HS
          have hbo : Below wr.heap.size wr (wr.alloc o) := (Below.refl _ _).alloc (Nat.le_refl _) _
          have := sLay_any w2.heap.size w.heap.size b pd _ p _ vc us _ ps B (wr.alloc o) (hs.kept hbo hsz) (by simp; omega) (ownsRow_below (ownsRow_below hrw (unhide Hb)) hbo) hpl (by rw [hcl]; omega) hwf (by rw [hcl]; exact hpt)
          rw [unhide Hsn] at this
          exact this
        clear hv hps hrw hwf hpt hcl
        go_wp2_with fail
        refine (unhide Hlay _).mono ?_
        rintro e w4 ⟨rfl, hs4, hb4⟩
        have HS4 := hide hs4
        have Hb4 := hide (((unhide Hb).alloc hsz _).trans hb4)
        clear hs4 hb4 Hlay
        go_wp2_with fail
        go_roundg (vs.length - (j + 1))
        case measure => omega
        case rel => exact ⟨j + 1, by omega, rfl, by go_num, unhide HS4, unhide Hb4⟩
      · obtain rfl : j = vs.length := by omega
        have htk : pss.take vs.length = pss := by rw [unhide Hlen]; exact List.take_length
        have Htx : Hid (Calls Tryz.prog 98 #[.pointer (some ⟨w2.heap.size, 0, none⟩)] wr fun e w' => ∃ u : ByteArray, e = .returned (.string u) ∧ L u = rptT (shC b (pdv pd) pss) ∧ Below wr.heap.size wr w') := by
          obtain ⟨vc, us, hs⟩ := unhide HS
          rw [htk] at hs
          exact sText_any w2.heap.size b pd _ wr ⟨_, _, _, _, hs.toShtAt⟩ ((unhide Ht).below (unhide Hb))
        clear htk
        go_wp2_with fail
        refine (unhide Htx).mono ?_
        rintro e w5 ⟨u, rfl, hu, hb5⟩
        have Hu := hide hu
        have Hb5 := hide ((unhide Hb).then' hsz hb5)
        clear hu hb5 Htx
        go_wp2_with fail
        go_ret2
        exact ⟨⟨u, rfl, unhide Hu⟩, unhide Hb5⟩

end Go.Proofs.YtdchbenfccofpaaGreatDoor
namespace Go.Proofs.YtdchbenfccofpaaGreatDoor
open Go.RowKit Db

theorem opnd_ptOk {e : List UInt8} {ps : List Pt} (h : Opnd e ps) : ∀ p ∈ ps, inR p.2 = true := by
  rcases h with ⟨_, hl, hd, rfl⟩ | ⟨c, ds, rfl, _, hd, hk, rfl⟩
  · intro p hp
    simp only [List.mem_singleton] at hp
    subst hp
    exact val_in hl hd
  · intro p hp
    simp only [List.mem_singleton] at hp
    subst hp
    refine val_in ?_ hd
    rcases hk with ⟨_, h⟩ | ⟨_, h⟩ <;> omega
theorem wf_inR {n : Nat} : ∀ {e : List UInt8} {ps : List Pt}, Wf n e ps → ∀ p ∈ ps, inR p.2 = true := by
  induction n with
  | zero => intro e ps h; exact absurd h (by simp [Wf])
  | succ n ih =>
    intro e ps h
    rcases h with ⟨_, h⟩ | ⟨_, h2⟩ | ⟨_, p, h2, rfl⟩ | ⟨h1, p, r, h2, h3, rfl⟩
    · exact opnd_ptOk h
    · exact ih h2
    · intro x hx
      simp at hx
      rcases hx with hx | rfl
      · exact ih h2 x hx
      · rfl
    · intro x hx
      simp at hx
      rcases hx with hx | hx | rfl
      · exact ih h2 x hx
      · exact ih h3 x hx
      · rfl
theorem ptOk_of {t : ByteArray} {pd : List (List UInt8 × List UInt8)} {rows : List (List UInt8)} {pss : List (List Pt)} {pl : Int} (hf : Db.Form (L t) pd rows pss) (ho : outc (pdv pd) pss = (0, pl)) : ∀ (i : Nat) ps, pss[i]? = some ps → (∃ n e, Wf n e ps) ∧ ∀ x ∈ ps, PtOk i x := by
  intro i ps hps
  obtain ⟨e, he⟩ : ∃ e, rows[i]? = some e := by
    have h1 := (List.getElem?_eq_some_iff.1 hps).1
    exact ⟨rows[i]'(by rw [hf.len]; exact h1), List.getElem?_eq_getElem _⟩
  have h := hf.row i e ps he hps
  obtain ⟨n, hn⟩ := h.wf
  refine ⟨⟨n, e, hn⟩, fun x hx => ⟨wf_inR hn x hx, fun hold => ⟨h.pos x hx, ?_⟩⟩⟩
  have h1 := badN_all pss 0 (by omega) (outc_few ho rfl).2.2.2 i ps hps
  exact nameB_lt h1 h.pos i (by omega) x hx hold

set_option maxRecDepth 100000 in
set_option maxHeartbeats 2000000 in
theorem dayReport_any (Bl p : Nat) (b : Bk) (s : ByteArray) (w : World) (hl : Led w Bl p b) (hm : s.size ≤ maxLen) (ht : Tab w) :
    Calls Tryz.prog 27 #[.pointer (some ⟨p, 0, none⟩), .string s] w fun e w' => ∃ (u : ByteArray) (er : Int), e = .returned (.tuple #[.string u, .int .i64 er]) ∧ RepIs b s u er ∧ Below w.heap.size w w' := by
  have hpl : p < w.heap.size := by obtain ⟨_, _, _, _, h⟩ := hl; exact h.blk.lt
  by_cases hs : 200 < s.size
  · clear hl ht
    go_enter Tryz.func27, Tryz.ntmps27
    go_wp2_with fail
    refine (read_long s _ hs hm).mono ?_
    rintro e w1 ⟨rfl, hb⟩
    have Hb := hide hb
    have hsz := hb.size
    clear hb
    go_wp2_with fail
    go_ret2
    exact ⟨_, 1, rfl, .inl ⟨hs, rfl, rfl⟩, (unhide Hb).alloc hsz _⟩
  · have hs' : s.size ≤ 200 := by omega
    have Ht := hide ht
    have Hl := hide hl
    clear ht hl
    go_enter Tryz.func27, Tryz.ntmps27
    go_wp2_with fail
    refine (read_short s _ hs').mono ?_
    rintro e w1 ⟨hb, ⟨pp, rfl, hp, hp0⟩ | ⟨vp, vr, pd, rows, pss, er, pl, rfl, hf, ho, hz, hok⟩⟩
    · have Hb := hide hb
      have hsz := hb.size
      have Hc : Hid (RepIs b s ⟨#[]⟩ 2) := .inr (.inl ⟨hs', rfl, by rw [hp]; exact hp0, rfl⟩)
      clear hb hp
      go_wp2_with fail
      go_ret2
      exact ⟨_, 2, rfl, unhide Hc, (unhide Hb).alloc hsz _⟩
    · have Hb := hide hb
      have hsz := hb.size
      by_cases h0 : er = 0
      · subst h0
        obtain ⟨hvp, vs, hvr⟩ := hok rfl
        obtain ⟨a1, k1, rfl⟩ := ownsRow_form hvp
        obtain ⟨a2, k2, rfl⟩ := ownsRow_form hvr.own
        have hsm := outc_few ho rfl
        have hpl4 : pd.length ≤ 4 := by have := hsm.1; simpa [pdv] using this
        obtain ⟨W, hW, B1, hbW, hWs⟩ := one_new w1 #[.slice a1 pd.length k1, .slice a2 vs.length k2] 110
        obtain ⟨x0, x1, _, _, lx⟩ := two_cells B1
        have HbW := hide (hb.then' hsz hbW)
        have hpW : p < W.heap.size := by omega
        have Hrp := hide (fun (wx : World) (hbx : Below W.heap.size W wx) => sReport_any Bl p b (.slice a1 pd.length k1) (.slice a2 vs.length k2) vs pd pss w.heap.size wx ((unhide Hl).kept ((unhide HbW).then' (by omega) hbx)) (ownsRow_below (ownsRow_below hvp hbW) hbx) ((hvr.kept hbW).kept hbx) hpl4 hsm.2.1 (ptOk_of hf ho) ((unhide Ht).below ((unhide HbW).then' (by omega) hbx)))
        have Hfo : Hid (∀ u er, ((pss.any (selq (notB b)) = true ∧ er = 7 ∧ u = ⟨#[]⟩) ∨ (pss.any (selq (notB b)) = false ∧ er = 0 ∧ L u = rptT (shC b (pdv pd) pss))) → RepIs b s u er) := fun u er h => .inr (.inr ⟨hs', pd, rows, pss, 0, pl, hf, ho, by
          rcases h with ⟨h1, h2, h3⟩ | ⟨h1, h2, h3⟩
          · exact .inr (.inl ⟨rfl, h1, h2, h3⟩)
          · exact .inr (.inr ⟨rfl, h1, h2, h3⟩)⟩)
        have Hrp2 : Hid (∀ (wx : World), Below W.heap.size W wx → Calls Tryz.prog 58 #[.agg #[.slice a1 pd.length k1, .slice a2 vs.length k2], .pointer (some ⟨p, 0, none⟩)] wx fun e w' => ∃ (u : ByteArray) (er : Int), e = .returned (.tuple #[.string u, .int .i64 er]) ∧ RepIs b s u er ∧ Below wx.heap.size wx w') := by
          intro wx hbx
          refine (unhide Hrp wx hbx).mono ?_
          rintro e w' ⟨⟨h1, rfl⟩ | ⟨h1, u, rfl, h2⟩, hb'⟩
          · exact ⟨_, 7, rfl, unhide Hfo _ _ (.inl ⟨h1, rfl, rfl⟩), hb'⟩
          · exact ⟨u, 0, rfl, unhide Hfo _ _ (.inr ⟨h1, rfl, h2⟩), hb'⟩
        clear hb hf ho hz hok hvp hvr hsm B1 hbW Hrp Hfo
        go_upto_region 4 with fail
        try rw [hW]
        clear hW
        go_region_held3 (fun w' => w'.cell? ⟨w1.heap.size, 0, none⟩ = some (.slice a1 pd.length k1) ∧ w'.cell? ⟨w1.heap.size, 1, none⟩ = some (.slice a2 vs.length k2)) (first | go_keep | exact ⟨kept_cell' hb4 (by simp [*]), kept_cell' hb4 (by simp [*])⟩) (first | (go_at_call 58; refine (unhide Hrp2 _ (by exact (Below.refl _ _).drew)).mono ?_; rintro e w4 ⟨u, er, rfl, hu, hb4⟩))
        have Hu := hide hu
        have Hb4 := hide ((unhide HbW).then' (by omega) hb4.undrew)
        clear hu hb4
        go_wp2_with fail
        go_ret2
        exact ⟨u, er, rfl, unhide Hu, unhide Hb4⟩
      · obtain ⟨rfl, rfl⟩ := hz h0
        have Hc : Hid (RepIs b s ⟨#[]⟩ er) := .inr (.inr ⟨hs', pd, rows, pss, er, pl, hf, ho, .inl ⟨h0, rfl, rfl⟩⟩)
        have hne : (er == 0) = false := by simpa using h0
        clear hb hf ho hz hok
        go_wp2_with fail
        go_ret2
        exact ⟨_, er, rfl, unhide Hc, (unhide Hb).alloc hsz _⟩

set_option maxRecDepth 100000 in
set_option maxHeartbeats 2000000 in
theorem refReport_any (B p : Nat) (b : Bk) (s u : ByteArray) (w : World) (h : Rfd w B p b) (hm : s.size ≤ maxLen) (er : Int) (hc : RepIs b s u er) :
    Calls Tryz.prog 124 #[.pointer (some ⟨p, 0, none⟩), .string s] w fun e w' => e = .returned (.tuple #[.string u, .int .i64 er]) ∧ Below w.heap.size w w' := by
  rcases hc with ⟨hs, rfl, rfl⟩ | ⟨hs, rfl, hp, rfl⟩ | ⟨hs, pd, rows, pss, e0, pl, hf, ho, ⟨h0, rfl, rfl⟩ | ⟨rfl, ha, rfl, rfl⟩ | ⟨rfl, ha, rfl, hu⟩⟩
  · clear h
    go_enter Tryz.func124, Tryz.ntmps124
    go_wp2_with fail
    refine (refRead_long s _ hs hm).mono ?_
    rintro e w1 ⟨rfl, hb⟩
    have Hb := hide hb
    have hsz := hb.size
    clear hb
    go_wp2_with fail
    go_ret2
    exact ⟨rfl, (unhide Hb).alloc hsz _⟩
  · obtain ⟨pp, hpp⟩ : ∃ pp, plc 0 0 0 0 (L s) = pp := ⟨_, rfl⟩
    have Hp := hide hp
    have Hpp := hide hpp
    clear hp hpp h
    go_enter Tryz.func124, Tryz.ntmps124
    go_wp2_with fail
    refine (refRead_form s _ hs (unhide Hp)).mono ?_
    rintro e w1 ⟨rfl, hb⟩
    rw [unhide Hpp]
    have Hb := hide hb
    have hsz := hb.size
    clear hb
    go_wp2_with fail
    go_ret2
    exact ⟨rfl, (unhide Hb).alloc hsz _⟩
  · have Hf := hide hf
    have Ho := hide ho
    have hne : (er == 0) = false := by simpa using h0
    clear hf ho h
    go_enter Tryz.func124, Tryz.ntmps124
    go_wp2_with fail
    refine (refRead_ok s _ hs pd rows pss (unhide Hf)).mono ?_
    rintro e w1 ⟨a1, n1, k1, a2, n2, k2, a3, n3, k3, er', pl', rfl, ho', hb, _⟩
    have hh := (unhide Ho).symm.trans ho'
    simp only [Prod.mk.injEq] at hh
    obtain ⟨rfl, rfl⟩ := hh
    have Hb := hide hb
    have hsz := hb.size
    clear hb ho'
    go_wp2_with fail
    go_ret2
    exact ⟨rfl, (unhide Hb).alloc hsz _⟩
  · refine (refReport_ok B p b s w hs pd rows pss pl hf ho h).mono ?_
    rintro e w1 ⟨⟨_, rfl⟩ | ⟨h1, _⟩, hb⟩
    · exact ⟨rfl, hb⟩
    · rw [ha] at h1; cases h1
  · refine (refReport_ok B p b s w hs pd rows pss pl hf ho h).mono ?_
    rintro e w1 ⟨⟨h1, _⟩ | ⟨_, u', rfl, hu'⟩, hb⟩
    · rw [ha] at h1; cases h1
    · obtain rfl : u' = u := L_inj (hu'.trans hu.symm)
      exact ⟨rfl, hb⟩

end Go.Proofs.YtdchbenfccofpaaGreatDoor
namespace Go.Proofs.YtdchbenfccofpaaGreatDoor
open Go.RowKit Db

set_option maxRecDepth 100000 in
set_option maxHeartbeats 4000000 in
theorem repCompile_any (vp vr : Value) (vs : List Value) (pss : List (List Pt)) (B : Nat) (w : World) (ap : Option Addr) (np kp : Nat) (hvp : vp = .slice ap np kp) (hr : RowsAt w B vr vs pss) (h8 : pss.length ≤ 8) (hps : ∀ ps ∈ pss, ∀ p ∈ ps, PtS p) (ht : Tab w) :
    Calls Tryz.prog 73 #[.agg #[vp, vr]] w fun e w' => ∃ u : ByteArray, e = .returned (.string u) ∧ L u = jn 59 (pss.map codT) ∧ u.size ≤ 40000 ∧ Below w.heap.size w w' := by
  subst hvp
  obtain ⟨aor, capr, rfl⟩ := ownsRow_form hr.own
  have Hr := hide hr
  have Hps := hide hps
  have Ht := hide ht
  have hvl : vs.length ≤ 8 := by rw [hr.len]; exact h8
  have Hlen := hide hr.len
  clear hr hps ht
  go_enter Tryz.func73, Tryz.ntmps73
  go_wp2_with fail
  go_loopg [3, 9] vs.length (fun m tv i wx => ∃ k : Nat, ∃ u : ByteArray, k ≤ vs.length ∧ m = vs.length - k ∧ i = .int .i64 k ∧ tv = .string u ∧ u.size ≤ 4601 * k ∧ Hid (L u = jn 59 ((pss.map codT).take k)) ∧ Hid (Below w.heap.size w wx))
  case atStart => exact ⟨0, ⟨#[]⟩, by omega, rfl, rfl, rfl, Nat.zero_le _, rfl, (Below.refl _ _).alloc (Nat.le_refl _) _⟩
  case round =>
    obtain ⟨k, u, hk, rfl, rfl, rfl, hus, Hu, Hbx⟩ := hrel
    have hszx := (unhide Hbx).size
    by_cases hlk : k < vs.length
    · obtain ⟨v, hv⟩ : ∃ v, vs[k]? = some v := ⟨vs[k], List.getElem?_eq_getElem hlk⟩
      obtain ⟨ps, hpk⟩ : ∃ ps, pss[k]? = some ps := ⟨pss[k]'(by have := unhide Hlen; omega), List.getElem?_eq_getElem _⟩
      obtain ⟨g, _, e1, hg, hg'⟩ := ownsRow_some (unhide Hr).own (by omega)
      simp only [Value.slice.injEq, true_and] at e1
      obtain ⟨rfl, rfl⟩ := e1
      have d := ownsRow_cell (ownsRow_below (unhide Hr).own (unhide Hbx)) (j := k) hv
      have hrw := (unhide Hr).row k v ps hv hpk
      have hpl := (unhide Hr).bd ps (List.mem_of_getElem? hpk)
      obtain ⟨aov, capv, rfl⟩ := ownsRow_form hrw
      have Hxc : Hid ((pss.map codT)[k]? = some (codT ps)) := by show _ = _; rw [List.getElem?_map, hpk]; rfl
      have Hcw := hide (fun (o : Obj) => compileRow_any (.slice aov ps.length capv) ps B (wr.alloc o) ((ownsRow_below hrw (unhide Hbx)).alloc o) (unhide Hps ps (List.mem_of_getElem? hpk)) hpl ((unhide Ht).below ((unhide Hbx).alloc hszx o)))
      clear hv hpk hrw
      by_cases hk0 : k = 0
      · have hk1 : ¬ (0 : Int) < (k : Int) := by omega
        have Hk0 := hide hk0
        clear hk0
        go_wp2_with fail
        refine (unhide Hcw _).mono ?_
        rintro e w6 ⟨u6, rfl, hu6, hs6, hb6⟩
        have Hu6 : Hid (L (u ++ u6) = jn 59 ((pss.map codT).take (k + 1))) := by
          show _ = _
          rw [L_append, unhide Hu, hu6, jn_pre (unhide Hxc), unhide Hk0, jpre_zero]; simp [jn]
        have Hs6 : Hid ((u ++ u6).size ≤ 4601 * (k + 1)) := by
          show _ ≤ _
          rw [size_app]; omega
        have Hb6 := hide (((unhide Hbx).alloc hszx _).then' (by simp; omega) hb6)
        clear hu6 hb6
        go_wp2_with fail
        go_roundg (vs.length - (k + 1))
        case measure => omega
        case rel => exact ⟨k + 1, _, by omega, rfl, by go_num, rfl, unhide Hs6, unhide Hu6, unhide Hb6⟩
      · have hk1 : (0 : Int) < (k : Int) := by omega
        go_wp2_with fail
        refine (unhide Hcw _).mono ?_
        rintro e w6 ⟨u6, rfl, hu6, hs6, hb6⟩
        have Hu6 : Hid (L (u ++ ⟨#[59]⟩ ++ u6) = jn 59 ((pss.map codT).take (k + 1))) := by
          show _ = _
          rw [L_append, L_append, unhide Hu, hu6, jn_pre (unhide Hxc), jpre_pos (sep := 59) (i := k) (by omega), show L ⟨#[59]⟩ = [59] from rfl]
        have Hs6 : Hid ((u ++ ⟨#[59]⟩ ++ u6).size ≤ 4601 * (k + 1)) := by
          show _ ≤ _
          rw [size_app, size_app]; show u.size + 1 + u6.size ≤ _; omega
        have Hb6 := hide (((unhide Hbx).alloc hszx _).then' (by simp; omega) hb6)
        clear hu6 hb6
        go_wp2_with fail
        go_roundg (vs.length - (k + 1))
        case measure => omega
        case rel => exact ⟨k + 1, _, by omega, rfl, by go_num, rfl, unhide Hs6, unhide Hu6, unhide Hb6⟩
    · obtain rfl : k = vs.length := by omega
      have Hfin : Hid (L u = jn 59 (pss.map codT)) := by
        show _ = _
        rw [unhide Hu, unhide Hlen, List.take_of_length_le (by simp)]
      go_wp2_with fail
      go_ret
      exact ⟨u, rfl, unhide Hfin, by omega, unhide Hbx⟩

theorem wf_sg {n : Nat} : ∀ {e : List UInt8} {ps : List Pt}, Wf n e ps → ∀ p ∈ ps, sgB p.1 = true := by
  induction n with
  | zero => intro e ps h; exact absurd h (by simp [Wf])
  | succ n ih =>
    intro e ps h
    rcases h with ⟨_, h⟩ | ⟨_, h2⟩ | ⟨_, p, h2, rfl⟩ | ⟨h1, p, r, h2, h3, rfl⟩
    · obtain ⟨p, rfl, hp⟩ := opnd_opd h
      intro x hx
      simp at hx
      subst hx
      unfold sgB; rw [hp]; rfl
    · exact ih h2
    · intro x hx
      simp at hx
      rcases hx with hx | rfl
      · exact ih h2 x hx
      · rfl
    · intro x hx
      simp at hx
      rcases hx with hx | hx | rfl
      · exact ih h2 x hx
      · exact ih h3 x hx
      · unfold sgB; rw [h1]; simp
theorem ptS_of {t : ByteArray} {pd : List (List UInt8 × List UInt8)} {rows : List (List UInt8)} {pss : List (List Pt)} (hf : Db.Form (L t) pd rows pss) : ∀ ps ∈ pss, ∀ p ∈ ps, PtS p := by
  intro ps hps
  obtain ⟨i, hi, rfl⟩ := List.getElem_of_mem hps
  have hi2 : i < rows.length := by rw [hf.len]; exact hi
  have h := hf.row i rows[i] pss[i] (List.getElem?_eq_getElem hi2) (List.getElem?_eq_getElem hi)
  obtain ⟨n, hn⟩ := h.wf
  exact fun p hp => ⟨wf_sg hn p hp, wf_inR hn p hp⟩

/-- What Compile answers. -/
def CompIs (s u : ByteArray) (er : Int) : Prop :=
  (200 < s.size ∧ er = 1 ∧ u = ⟨#[]⟩) ∨ (s.size ≤ 200 ∧ er = 2 ∧ 0 ≤ plc 0 0 0 0 (L s) ∧ u = ⟨#[]⟩) ∨
  (s.size ≤ 200 ∧ ∃ pd rows pss pl, Db.Form (L s) pd rows pss ∧ outc (pdv pd) pss = (er, pl) ∧ ((¬ er = 0 ∧ u = ⟨#[]⟩) ∨ (er = 0 ∧ L u = jn 59 (pss.map codT) ∧ u.size ≤ 40000 ∧ ∀ ps ∈ pss, ps.length ≤ 200)))

set_option maxRecDepth 100000 in
set_option maxHeartbeats 1000000 in
theorem dayCompile_any (s : ByteArray) (w : World) (hm : s.size ≤ maxLen) (ht : Tab w) :
    Calls Tryz.prog 41 #[.string s] w fun e w' => ∃ (u : ByteArray) (er : Int), e = .returned (.tuple #[.string u, .int .i64 er]) ∧ CompIs s u er ∧ Below w.heap.size w w' := by
  by_cases hs : 200 < s.size
  · go_enter Tryz.func41, Tryz.ntmps41
    go_wp2_with fail
    refine (read_long s _ hs hm).mono ?_
    rintro e w1 ⟨rfl, hb⟩
    have Hb := hide hb
    have hsz := hb.size
    clear hb
    go_wp2_with fail
    go_ret2
    exact ⟨_, 1, rfl, .inl ⟨hs, rfl, rfl⟩, (unhide Hb).alloc hsz _⟩
  · have hs' : s.size ≤ 200 := by omega
    have Ht := hide ht
    clear ht
    go_enter Tryz.func41, Tryz.ntmps41
    go_wp2_with fail
    refine (read_short s _ hs').mono ?_
    rintro e w1 ⟨hb, ⟨p, rfl, hp, hp0⟩ | ⟨vp, vr, pd, rows, pss, er, pl, rfl, hf, ho, hz, hok⟩⟩
    · have Hb := hide hb
      have hsz := hb.size
      have Hc : Hid (CompIs s ⟨#[]⟩ 2) := .inr (.inl ⟨hs', rfl, by rw [hp]; exact hp0, rfl⟩)
      clear hb hp
      go_wp2_with fail
      go_ret2
      exact ⟨_, 2, rfl, unhide Hc, (unhide Hb).alloc hsz _⟩
    · have Hb := hide hb
      have hsz := hb.size
      by_cases h0 : er = 0
      · subst h0
        obtain ⟨hvp, vs, hvr⟩ := hok rfl
        obtain ⟨a1, k1, rfl⟩ := ownsRow_form hvp
        obtain ⟨a2, k2, rfl⟩ := ownsRow_form hvr.own
        have hsm := outc_few ho rfl
        have Hf := hide hf
        have Ho := hide ho
        have Hvp := hide hvp
        have Hvr := hide hvr
        have Hrp := hide (fun (o : Obj) => repCompile_any (.slice a1 pd.length k1) (.slice a2 vs.length k2) vs pss w.heap.size (w1.alloc o) _ _ _ rfl (hvr.kept ((Below.refl _ _).alloc (Nat.le_refl _) _)) hsm.2.1 (ptS_of hf) ((unhide Ht).below (hb.alloc hsz o)))
        clear hb hf ho hz hok hvp hvr hsm
        go_wp2_with fail
        refine (unhide Hrp _).mono ?_
        rintro e w2 ⟨u, rfl, hu, hus, hb2⟩
        have Hu := hide hu
        have Hus := hide hus
        have Hb2 : Hid (Below w.heap.size w w2) := ((unhide Hb).alloc hsz _).then' (by simp; omega) hb2
        clear hu hb2 hus
        go_wp2_with fail
        go_ret2
        exact ⟨u, 0, rfl, .inr (.inr ⟨hs', pd, rows, pss, pl, unhide Hf, unhide Ho, .inr ⟨rfl, unhide Hu, unhide Hus, (unhide Hvr).bd⟩⟩), unhide Hb2⟩
      · obtain ⟨rfl, rfl⟩ := hz h0
        have Hc : Hid (CompIs s ⟨#[]⟩ er) := .inr (.inr ⟨hs', pd, rows, pss, pl, hf, ho, .inl ⟨h0, rfl⟩⟩)
        have hne : (er == 0) = false := by simpa using h0
        clear hb hf ho hz hok
        go_wp2_with fail
        go_ret2
        exact ⟨_, er, rfl, unhide Hc, (unhide Hb).alloc hsz _⟩

end Go.Proofs.YtdchbenfccofpaaGreatDoor
namespace Db
open Go Go.Proofs.YtdchbenfccofpaaGreatDoor
theorem wf_num {n : Nat} : ∀ {e : List UInt8} {ps : List Pt}, Wf n e ps → ∀ p ∈ ps, (selB p.1 = true → 0 ≤ p.2 ∧ p.2 < 100) ∧ (oldB p.1 = true → 0 ≤ p.2 ∧ p.2 < 10) := by
  induction n with
  | zero => intro e ps h; exact absurd h (by simp [Wf])
  | succ n ih =>
    intro e ps h
    rcases h with ⟨_, h⟩ | ⟨_, h2⟩ | ⟨_, p, h2, rfl⟩ | ⟨h1, p, r, h2, h3, rfl⟩
    · intro x hx
      rcases h with ⟨_, _, _, rfl⟩ | ⟨c, ds, _, _, hd, hs, rfl⟩
      · simp at hx; subst hx; exact ⟨fun h => (by cases h), fun h => (by cases h)⟩
      · simp at hx
        subst hx
        have h0 := val_pos ds hd
        have h1 := val_lt ds hd
        refine ⟨fun hsel => ⟨h0, ?_⟩, fun hold => ⟨h0, ?_⟩⟩
        · have hl : ds.length ≤ 2 := by rcases hs with ⟨_, h⟩ | ⟨_, h⟩ <;> omega
          have : (10 : Int) ^ ds.length ≤ 10 ^ 2 := by
            have : (10 : Nat) ^ ds.length ≤ 10 ^ 2 := Nat.pow_le_pow_right (by omega) hl
            exact_mod_cast this
          have e : (10 : Int) ^ 2 = 100 := by decide
          simp only; omega
        · have hl : ds.length = 1 := by
            rcases hs with ⟨h, _⟩ | ⟨_, h⟩
            · simp only at hold
              simp [selB] at h
              simp [oldB] at hold
              omega
            · exact h
          rw [hl] at h1
          simp only; omega
    · exact ih h2
    · intro x hx
      simp at hx
      rcases hx with hx | rfl
      · exact ih h2 x hx
      · exact ⟨fun h => (by cases h), fun h => (by cases h)⟩
    · intro x hx
      simp at hx
      rcases hx with hx | hx | rfl
      · exact ih h2 x hx
      · exact ih h3 x hx
      · have h4 := opd_op h1
        simp [opdB] at h4
        refine ⟨fun h => ?_, fun h => ?_⟩
        · simp only at h; rw [h4.1.1.2] at h; cases h
        · simp only at h; rw [h4.1.2] at h; cases h
/-- The words of the code of row number i. -/
theorem wok_of {i : Nat} {n : Nat} {e : List UInt8} {ps : List Pt} (h : Wf n e ps) (hS : ∀ p ∈ ps, PtS p) (hold : ∀ p ∈ ps, oldB p.1 = true → p.2.toNat < i) : ∀ p ∈ (cod ps).reverse, WOk i p := by
  intro p hp
  rw [List.mem_reverse] at hp
  refine all_cod (P := WOk i) (fun v hv => ⟨⟨rfl, hv⟩, fun h => (by cases h), fun h => (by cases h)⟩) ps (by simp) ?_ p hp
  intro x hx
  have h1 := wf_num h x hx
  refine ⟨hS x hx, h1.1, fun ho => ?_⟩
  have h2 := h1.2 ho
  have h3 := hold x hx ho
  omega
theorem fold_congr {E E' : Pt → Cl} : ∀ (ps : List Pt), (∀ p ∈ ps, E p = E' p) → ∀ s, ps.foldl (vStep E) s = ps.foldl (vStep E') s
  | [], _, _ => rfl
  | p :: r, h, s => by
    rw [List.foldl_cons, List.foldl_cons]
    have : vStep E s p = vStep E' s p := by
      cases s with
      | none => rfl
      | some st => simp only [vStep, opv, h p (by simp)]
    rw [this]
    exact fold_congr r (fun x hx => h x (by simp [hx])) _
/-- Rows ahead stay as they were. -/
theorem shC_pre (s : Bk) (pd : List (Int × Int)) (pss : List (List Pt)) (i : Nat) : ∀ d, i + d ≤ pss.length → (shC s pd (pss.take (i + d))).take i = shC s pd (pss.take i) := by
  intro d
  induction d with
  | zero => intro h; rw [Nat.add_zero]; exact List.take_of_length_le (by rw [shC_len, List.length_take]; omega)
  | succ d ih =>
    intro h
    obtain ⟨ps, hps⟩ : ∃ ps, pss[i + d]? = some ps := ⟨pss[i + d]'(by omega), List.getElem?_eq_getElem _⟩
    rw [← Nat.add_assoc, shC_snoc hps, List.take_append_of_le_length (by rw [shC_len, List.length_take]; omega)]
    exact ih (by omega)
theorem shC_take (s : Bk) (pd : List (Int × Int)) (pss : List (List Pt)) (i : Nat) (h : i ≤ pss.length) : (shC s pd pss).take i = shC s pd (pss.take i) := by
  have := shC_pre s pd pss i (pss.length - i) (by omega)
  rwa [show i + (pss.length - i) = pss.length by omega, List.take_length] at this
theorem shC_at {s : Bk} {pd : List (Int × Int)} {pss : List (List Pt)} {i : Nat} {ps : List Pt} (h : pss[i]? = some ps) : (shC s pd pss)[i]? = some (rowP s pd (shC s pd (pss.take i)) ps pd.length) := by
  have hi := (List.getElem?_eq_some_iff.1 h).1
  have h1 := shC_take s pd pss (i + 1) (by omega)
  have h2 : (shC s pd pss)[i]? = ((shC s pd pss).take (i + 1))[i]? := by rw [List.getElem?_take, if_pos (by omega)]
  rw [h2, h1, shC_snoc h, List.getElem?_append_right (by rw [shC_len, List.length_take]; omega), shC_len, List.length_take, show i - min i pss.length = 0 by omega]
  rfl
/-- The code of a row comes to the row's cell, over all cells. -/
theorem run_val {s : Bk} {pd : List (Int × Int)} {pss : List (List Pt)} {i k : Nat} {ps : List Pt} {n : Nat} {e : List UInt8} (h : pss[i]? = some ps) (hk : k < pd.length) (hwf : Wf n e ps) (hold : ∀ p ∈ ps, oldB p.1 = true → p.2.toNat < i) :
    (cod ps).reverse.foldl (vStep (opE s pd (shC s pd pss) k)) (some []) = some [((shC s pd pss).getD i []).getD k (0, 0)] := by
  have hi := (List.getElem?_eq_some_iff.1 h).1
  have hcel : ((shC s pd pss).getD i []).getD k (0, 0) = cel (opE s pd (shC s pd (pss.take i)) k) ps := by
    rw [List.getD_eq_getElem?_getD, List.getD_eq_getElem?_getD, shC_at h]
    simp only [Option.getD_some]
    unfold rowP
    rw [List.getElem?_map, List.getElem?_range hk]
    rfl
  have hE : ∀ p ∈ ps, opE s pd (shC s pd pss) k p = opE s pd (shC s pd (pss.take i)) k p := by
    intro p hp
    unfold opE
    have hg : oldB p.1 = true → (shC s pd pss).getD p.2.toNat [] = (shC s pd (pss.take i)).getD p.2.toNat [] := by
      intro ho
      have hlt := hold p hp ho
      rw [← shC_take s pd pss i (by omega), List.getD_eq_getElem?_getD, List.getD_eq_getElem?_getD, List.getElem?_take, if_pos hlt]
    by_cases h36 : p.1 = 36
    · rw [if_pos (by simp [h36]), if_pos (by simp [h36]), hg (by rw [h36]; rfl)]
    · have e36 : (p.1 == 36) = false := by simpa using h36
      rw [e36]
      by_cases h60 : p.1 = 60
      · have e60 : (p.1 == 60) = true := by simp [h60]
        rw [e60, hg (by rw [h60]; rfl)]
      · have e60 : (p.1 == 60) = false := by simpa using h60
        rw [e60]
        rfl
  have hv : ValR (opE s pd (shC s pd pss) k) ps (cel (opE s pd (shC s pd (pss.take i)) k) ps) := by
    intro st
    rw [fold_congr ps hE]
    exact val_cel hwf st
  rw [hcel]
  exact cod_val hv
theorem codT_no {ps : List Pt} (hS : ∀ p ∈ (cod ps).reverse, PtS p) : ∀ x ∈ codT ps, x ≠ 59 := by
  unfold codT
  refine jn_bytes (q := fun x => x ≠ 59) (by decide) _ ?_
  intro w hw x hx
  obtain ⟨p, hp, rfl⟩ := List.mem_map.1 hw
  exact (word_bytes (hS p hp) x hx).2
end Db
namespace Go.Proofs.YtdchbenfccofpaaGreatDoor
open Go.RowKit Db

theorem CellsAt.down {w : World} {B B' : Nat} {vc : Value} {vs : List Value} {cells : List (List Cl)} (h : CellsAt w B vc vs cells) (hB : B' ≤ B) : CellsAt w B' vc vs cells :=
  ⟨own_down h.own hB, h.len, fun i v c h1 h2 => own_down (h.row i v c h1 h2) hB⟩
theorem splitGo_ne' (c : UInt8) (l : List UInt8) : ∀ acc cur, splitGo c acc cur l ≠ [] := by
  induction l with
  | nil => intro acc cur; simp [splitGo]
  | cons x r ih => intro acc cur; unfold splitGo; split <;> exact ih _ _
/-- What is known of a row and its code. -/
structure CdRow (l t : ByteArray) (ps : List Pt) (i : Nat) : Prop where
  code : L l = codT ps
  sz : l.size ≤ 40000
  row : RowW t ps i
  wok : ∀ p ∈ (cod ps).reverse, WOk i p
  len : ps.length ≤ 200
theorem map_get {l : List ByteArray} {f : List (List UInt8)} (h : l.map L = f) {i : Nat} {u : ByteArray} (hu : l[i]? = some u) : f[i]? = some (L u) := by
  rw [← h, List.getElem?_map, hu]; rfl
theorem split_codes {code : ByteArray} {pss : List (List Pt)} {us : List ByteArray} (hc : L code = jn 59 (pss.map codT)) (hne : pss ≠ []) (hP : ∀ ps ∈ pss, ∀ x ∈ codT ps, x ≠ 59) (hus : us.map L = split (L code) 59) : us.map L = pss.map codT := by
  rw [hus, hc]
  refine split_jn 59 _ (by simpa using hne) ?_
  intro w hw x hx
  obtain ⟨ps, hp, rfl⟩ := List.mem_map.1 hw
  exact hP ps hp x hx

set_option maxRecDepth 100000 in
set_option maxHeartbeats 8000000 in
theorem coded_ok (B p : Nat) (b : Bk) (s code : ByteArray) (w : World) (hs : s.size ≤ 200) (pd : List (List UInt8 × List UInt8)) (rows : List (List UInt8)) (pss : List (List Pt)) (pl : Int) (hf : Db.Form (L s) pd rows pss) (ho : outc (pdv pd) pss = (0, pl)) (h : Rfd w B p b)
    (hc : L code = jn 59 (pss.map codT)) (hcs : code.size ≤ 40000) (hbd : ∀ ps ∈ pss, ps.length ≤ 200) :
    Calls Tryz.prog 45 #[.pointer (some ⟨p, 0, none⟩), .string s, .string code, .int .i64 0] w fun e w' => e = .returned (.bool true) ∧ Below w.heap.size w w' := by
  have hfew := outc_few ho rfl
  have Hf := hide hf
  have Ho := hide ho
  have H := hide h
  have hpne : pss ≠ [] := by
    rintro rfl
    obtain ⟨x, y, _, _, h3⟩ := hf.sht.parts
    have h4 := hf.len
    simp at h4
    rw [h4] at h3
    exact absurd h3 (by unfold split; exact splitGo_ne' _ _ _ _)
  have Hwk : Hid (∀ (i : Nat) ps, pss[i]? = some ps → (∀ q ∈ (cod ps).reverse, WOk i q)) := by
    intro i ps hps
    obtain ⟨⟨n, e, hwf⟩, hpt⟩ := ptOk_of hf ho i ps hps
    exact wok_of hwf (ptS_of hf ps (List.mem_of_getElem? hps)) (fun q hq hold => ((hpt q hq).2 hold).2)
  have Hspl : Hid (∀ us : List ByteArray, us.map L = split (L code) 59 → us.map L = pss.map codT) := by
    intro us hus
    refine split_codes hc hpne ?_ hus
    intro ps hps
    obtain ⟨i, hi, rfl⟩ := List.getElem_of_mem hps
    exact codT_no (fun q hq => (unhide Hwk i _ (List.getElem?_eq_getElem hi) q hq).1)
  have Hbd := hide hbd
  clear hf ho h hc hpne hbd
  go_enter Tryz.func45, Tryz.ntmps45
  go_wp2_with fail
  refine (refRead_ok s _ hs pd rows pss (unhide Hf)).mono ?_
  rintro e w1 ⟨a1, n1, k1, a2, n2, k2, a3, n3, k3, er', pl', rfl, ho', hb, hsh⟩
  have hh := (unhide Ho).symm.trans ho'
  simp only [Prod.mk.injEq] at hh
  obtain ⟨rfl, rfl⟩ := hh
  obtain ⟨ss, hss, hsh⟩ := hsh rfl
  have hp4 : pd.length ≤ 4 := by have := hfew.1; simpa [pdv] using this
  have hlen : ss.length = pss.length := by rw [← (unhide Hf).len, ← hss, List.length_map]
  have hs8 : ss.length ≤ 8 := by rw [hlen]; exact hfew.2.1
  obtain rfl : n3 = ss.length := by obtain ⟨_, _, e1⟩ := ownsRow_form hsh.rr; cases e1; rfl
  obtain rfl : n1 = pd.length := by obtain ⟨_, _, e1⟩ := ownsRow_form hsh.rf; cases e1; rfl
  have HrowW := hide (rowW_of (unhide Hf) (unhide Ho) hss)
  have hsz := hb.size
  obtain ⟨W, hW⟩ : ∃ W, w1.alloc (.cells #[.slice a1 pd.length k1, .slice a2 n2 k2, .slice a3 ss.length k3] 129) = W := ⟨_, rfl⟩
  have HbW : Hid (Below w.heap.size w W) := by rw [← hW]; exact hb.alloc hsz _
  have HB : Hid (Blk W w1.heap.size #[.slice a1 pd.length k1, .slice a2 n2 k2, .slice a3 ss.length k3] 129) := by rw [← hW]; exact Blk.new _ _ _
  have Hsh : Hid (SheetAt W w.heap.size (.slice a1 pd.length k1) (.slice a2 n2 k2) (.slice a3 ss.length k3) pd ss) := by rw [← hW]; exact hsh.alloc _
  have hWs : W.heap.size = w1.heap.size + 1 := by rw [← hW]; simp
  have Hlen := hide hlen
  clear hb ho' hsh hss hlen
  go_wp2_with fail
  try rw [hW]
  clear hW
  refine (split_any code 59 _ (by omega)).mono ?_
  rintro e w2 ⟨v, us, rfl, hus, hown, hb2⟩
  have hum := unhide Hspl us hus
  have hul : us.length = pss.length := by have := congrArg List.length hum; simpa using this
  have hul2 : us.length = ss.length := by have := unhide Hlen; omega
  obtain ⟨gu, capu, rfl, hgu, hgu'⟩ := ownsRow_some hown (by have := (unhide Hlen); cases hp : pss with | nil => rw [hp] at hum; simp at hum; subst hum; simp at hus; exact absurd hus.symm (fun e => splitGo_ne' 59 (L code) [] [] e.symm) | cons a r => rw [hul, hp]; simp)
  rw [hul2] at hown ⊢
  have Hown := hide hown
  have Hum := hide hum
  have Hb2 := hide ((unhide HbW).then' (unhide HbW).size hb2)
  have Hb2W := hide hb2
  have Hul := hide hul
  have Hul2 := hide hul2
  have Husz : Hid (∀ (i : Nat) u, us[i]? = some u → u.size ≤ 40000) := by
    intro i u hu
    have h1 := split_le (L code) 59 (L u) (by rw [← hus]; exact List.mem_map.2 ⟨u, List.mem_of_getElem? hu, rfl⟩)
    rw [L_length, L_length] at h1
    omega
  clear hum hus hown hul hul2 Hspl hb2
  have s0 := ((unhide HB).kept (unhide Hb2W)).cell 0
  have s2 := ((unhide HB).kept (unhide Hb2W)).cell 2
  simp only [List.getElem?_toArray, List.getElem?_cons_zero, List.getElem?_cons_succ] at s0 s2
  have hult : us.length ≤ 8 := by have := unhide Hul2; omega
  have Hrow : Hid (∀ (i : Nat) (hi : i < ss.length), ∃ u t ps, us[i]? = some u ∧ ss[i]? = some t ∧ pss[i]? = some ps ∧ CdRow u t ps i) := by
    intro i hi
    have h1 := unhide Hul2
    have h2 := unhide Hlen
    obtain ⟨u, hu⟩ : ∃ u, us[i]? = some u := ⟨us[i]'(by omega), List.getElem?_eq_getElem _⟩
    obtain ⟨t, ht⟩ : ∃ t, ss[i]? = some t := ⟨ss[i]'(by omega), List.getElem?_eq_getElem _⟩
    obtain ⟨ps, hps⟩ : ∃ ps, pss[i]? = some ps := ⟨pss[i]'(by omega), List.getElem?_eq_getElem _⟩
    refine ⟨u, t, ps, hu, ht, hps, ?_, unhide Husz i u hu, unhide HrowW i t ps ht hps, unhide Hwk i ps hps, unhide Hbd ps (List.mem_of_getElem? hps)⟩
    have := map_get (unhide Hum) hu
    rw [List.getElem?_map, hps] at this
    simpa using this.symm
  go_wp2_with fail
  go_loopg [13] ss.length (fun m i wr => ∃ j : Nat, j ≤ ss.length ∧ m = ss.length - j ∧ i = .int .i64 j ∧ Hid (Below w2.heap.size w2 wr))
  case atStart => exact ⟨0, by omega, rfl, rfl, Below.refl _ _⟩
  case round =>
    obtain ⟨j, hj, rfl, rfl, Hbx⟩ := hrel
    have hszx := (unhide Hbx).size
    have s0x := kept_cell' (unhide Hbx) s0
    have s2x := kept_cell' (unhide Hbx) s2
    by_cases hlt : j < ss.length
    · obtain ⟨u, t, ps, hu, ht, hps, hcd⟩ := unhide Hrow j hlt
      have hox := ownsRow_below (unhide Hown) (unhide Hbx)
      have d1 := ownsRow_cell (by have := hox; exact this) (j := j) (u := .string u) (by rw [List.getElem?_map, hu]; rfl)
      have hshx := ((unhide Hsh).kept (unhide Hb2W)).kept (unhide Hbx)
      obtain ⟨gr, _, e1, hgr, hgr'⟩ := ownsRow_some hshx.rr (by omega)
      simp only [Value.slice.injEq, true_and] at e1
      obtain ⟨rfl, rfl⟩ := e1
      have d2 := ownsRow_cell hshx.rr (j := j) (u := .string t) (by rw [List.getElem?_map, ht]; rfl)
      obtain ⟨n, hwf⟩ := hcd.row.wf
      have Hfo := hide (fun wx : World => formed_any u t j ps (cod ps).reverse n wx (fun _ => (0, 0)) _ hcd.code hcd.sz hcd.wok (by rw [List.reverse_reverse]; exact nf_cod ps (rs := []) trivial) (cod_val (val_cel hwf)) hwf hcd.row.sz (by rw [List.length_reverse]; have := len_cod ps []; unfold cod; simpa using this) hcd.len)
      have hlti : (j : Int) < (ss.length : Int) := by omega
      clear hu ht hps hcd hox hshx hwf
      go_upto_region 10 with fail
      go_region_held3 (fun w' => w'.cell? ⟨gu, j, none⟩ = some (.string u) ∧ w'.cell? ⟨w1.heap.size, 2, none⟩ = some (.slice (some ⟨gr, 0, none⟩) ss.length k3) ∧ w'.cell? ⟨gr, j, none⟩ = some (.string t)) (first | go_keep | exact ⟨kept_cell' hb4 (by simp [*]), kept_cell' hb4 (by simp [*]), kept_cell' hb4 (by simp [*])⟩) (first | (go_at_call 78; refine (unhide Hfo _).mono ?_; rintro e w4 ⟨rfl, hb4⟩))
      have Hb4 := hide ((unhide Hbx).then' hszx hb4.undrew)
      clear hb4 Hfo
      go_wp2_with fail
      go_roundg (ss.length - (j + 1))
      case measure => omega
      case rel => exact ⟨j + 1, by omega, rfl, by go_num, unhide Hb4⟩
    · obtain rfl : j = ss.length := by omega
      have s1x := kept_cell' (unhide Hbx) (kept_cell' (unhide Hb2W) ((unhide HB).cell 1))
      have lw1 : w1.heap.size < wr.heap.size := by
        have h1 := ((unhide HB).kept (unhide Hb2W)).lt
        omega
      have Hwk := hide (fun (o : Obj) => worked_any p w.heap.size B b pd ss pss _ _ _ (wr.alloc o) ((unhide H).kept (((unhide Hb2).then' (unhide Hb2).size (unhide Hbx)).alloc (by have := (unhide Hb2).size; omega) o)) ((((unhide Hsh).kept (unhide Hb2W)).kept (unhide Hbx)).alloc o) hp4 (unhide Hlen) hfew.2.1 (unhide HrowW))
      go_wp2_with fail
      refine (unhide Hwk _).mono ?_
      rintro e w4 ⟨g, vc, vs, rfl, hge, hg, hb4⟩
      simp at hge
      obtain ⟨cells, hcells⟩ : ∃ cells, shC b (pdv pd) pss = cells := ⟨_, rfl⟩
      have hcl : cells.length = ss.length := by rw [← hcells, shC_len, unhide Hlen]
      rw [hcells] at hg
      have Hcells := hide hcells
      obtain ⟨aoc, capc, hvc0⟩ := ownsRow_form hg.cs.own
      rw [hg.cs.len, hcl] at hvc0
      subst hvc0
      have HQ := hide ((Blk.new wr #[.pointer (some ⟨p, 0, none⟩), .slice a1 pd.length k1, .slice a2 n2 k2, .slice a3 ss.length k3, .slice none 0 0] 136).kept hb4)
      have q4 := (five_cells (unhide HQ)).2.2.2.2
      have z4 := (unhide HQ).frozen 4
      have lq := (unhide HQ).lt
      have Hb4r : Hid (Below wr.heap.size wr w4) := ((Below.refl _ _).alloc (Nat.le_refl _) _).then' (by simp) hb4
      have Hb4 : Hid (Below w2.heap.size w2 w4) := (unhide Hbx).then' hszx (unhide Hb4r)
      have HG : Hid (GridAt (w4.setCell ⟨wr.heap.size, 4, none⟩ (.slice aoc ss.length capc)) wr.heap.size b pd cells p w.heap.size (.slice a1 pd.length k1) (.slice a2 n2 k2) (.slice a3 ss.length k3) (.slice aoc ss.length capc) ss vs) := by
        have hbs : Below wr.heap.size wr (w4.setCell ⟨wr.heap.size, 4, none⟩ (.slice aoc ss.length capc)) := (unhide Hb4r).setCell (by simp) _
        have hbw : Below w.heap.size w wr := (unhide Hb2).then' (unhide Hb2).size (unhide Hbx)
        refine ⟨?_, ⟨B, ((unhide H).kept hbw).kept hbs⟩, ((((unhide Hsh).kept (unhide Hb2W)).kept (unhide Hbx)).kept hbs), ?_, hg.wid, hg.few, hg.ok⟩
        · have := (unhide HQ).set 4 (.slice aoc ss.length capc)
          simpa using this
        · exact (hg.cs.set (by show wr.heap.size < g + 1; omega) _).down (by omega)
      have HB5 : Hid (Below w2.heap.size w2 (w4.setCell ⟨wr.heap.size, 4, none⟩ (.slice aoc ss.length capc))) := (unhide Hb4).setCell (by show w2.heap.size ≤ wr.heap.size; exact hszx) _
      clear hb4 hg hcells Hwk hge
      go_wp2_with fail
      obtain ⟨w5, hw5⟩ : ∃ w5, w4.setCell ⟨wr.heap.size, 4, none⟩ (.slice aoc ss.length capc) = w5 := ⟨_, rfl⟩
      rw [hw5] at HG HB5 ⊢
      clear hw5 q4 z4 lq HQ Hb4 Hb4r
      obtain ⟨gq, hgq⟩ : ∃ gq, wr.heap.size = gq := ⟨_, rfl⟩
      rw [hgq] at HG ⊢
      clear hgq s0x s2x s1x
      go_loopg [16] ss.length (fun m i wx => ∃ i' : Nat, i' ≤ ss.length ∧ m = ss.length - i' ∧ i = .int .i64 i' ∧ Hid (Below w5.heap.size w5 wx))
      case atStart => exact ⟨0, by omega, rfl, rfl, Below.refl _ _⟩
      case round =>
        obtain ⟨i, hi, rfl, rfl, Hb6⟩ := hrel
        by_cases hlt : i < ss.length
        · obtain ⟨u, t, ps, hu, ht, hps, hcd⟩ := unhide Hrow i hlt
          have hlti : (i : Int) < (ss.length : Int) := by omega
          have Hd1 : Hid (w2.cell? ⟨gu, i, none⟩ = some (.string u)) := ownsRow_cell (by have := unhide Hown; exact this) (j := i) (u := .string u) (by rw [List.getElem?_map, hu]; rfl)
          obtain ⟨n, hwf⟩ := hcd.row.wf
          have Hrun : Hid (∀ (k : Nat) (wx : World), k < pd.length → Below w5.heap.size w5 wx → Calls Tryz.prog 80 #[.pointer (some ⟨gq, 0, none⟩), .string u, .int .i64 (k : Int)] wx fun e w' => e = .returned (clV ((cells.getD i []).getD k (0, 0))) ∧ Below wx.heap.size wx w') := by
            intro k wx hk hb
            refine (run_any gq k b pd cells u i (cod ps).reverse ((cells.getD i []).getD k (0, 0)) wx ⟨_, _, _, _, _, _, _, _, (unhide HG).kept hb⟩ hk hcd.code hcd.sz hcd.wok (by omega) (by rw [List.length_reverse]; have := len_cod ps []; have h2 := hcd.len; simp at this; unfold cod; omega) ?_).mono ?_
            · have := run_val (s := b) (pd := pdv pd) hps (k := k) (by simpa [pdv] using hk) hwf hcd.row.old
              rw [unhide Hcells] at this
              exact this
            · rintro e w' ⟨rfl, _, hb'⟩
              exact ⟨rfl, hb'⟩
          clear hu ht hps hcd hwf
          go_wp2_with fail
          obtain ⟨w6, hw6⟩ : ∃ w6, wr = w6 := ⟨_, rfl⟩
          rw [hw6] at Hb6 ⊢
          clear hw6
          go_loopg [17] pd.length (fun m i wx => ∃ k : Nat, k ≤ pd.length ∧ m = pd.length - k ∧ i = .int .i64 k ∧ Hid (Below w5.heap.size w5 wx))
          case atStart => exact ⟨0, by omega, rfl, rfl, unhide Hb6⟩
          case round =>
            obtain ⟨k, hk, rfl, rfl, Hb7⟩ := hrel
            have hsz7 := (unhide Hb7).size
            have Hb7w := hide ((unhide HB5).then' (unhide HB5).size (unhide Hb7))
            have s0y := kept_cell' (unhide Hb7w) s0
            have d1 := kept_cell' (unhide Hb7w) (unhide Hd1)
            by_cases hlk : k < pd.length
            · obtain ⟨gc, capc', _, gr, capr, x, y, hvc, r1, _, r2, r3, hxy, hgc, hgr⟩ := row_get ((unhide HG).kept (unhide Hb7)) (n := i) (by omega) hlk
              simp only [Value.slice.injEq] at hvc
              obtain ⟨rfl, hvl, rfl⟩ := hvc
              have q4 := (five_cells ((unhide HG).kept (unhide Hb7)).blk).2.2.2.2
              clear hvl
              have lq := ((unhide HG).kept (unhide Hb7)).blk.lt
              have Hr := hide (unhide Hrun k _ hlk (unhide Hb7))
              rw [hxy] at Hr
              unfold clV at Hr
              simp only at Hr
              have hkp : (k : Int) < (pd.length : Int) := by omega
              clear hxy
              go_wp2_with fail
              refine (unhide Hr).mono ?_
              rintro e w8 ⟨rfl, hb8⟩
              have hs8 := hb8.size
              have q4' := kept_cell' hb8 q4
              have r1' := kept_cell' hb8 r1
              have r2' := kept_cell' hb8 r2
              have r3' := kept_cell' hb8 r3
              have Hb8 := hide ((unhide Hb7).then' hsz7 hb8)
              have hsz8 := (unhide Hb8).size
              have lq8 : gq < w8.heap.size := by omega
              have lgc8 : gc < w8.heap.size := by omega
              have lgr8 : gr < w8.heap.size := by omega
              clear hb8 Hr q4 r1 r2 r3
              go_upto_region 22 with fail
              go_quiet (fail)
              go_wp2_with fail
              go_roundg (pd.length - (k + 1))
              case measure => omega
              case rel => exact ⟨k + 1, by omega, rfl, by go_num, ((unhide Hb8).alloc hsz8 _).drewN _⟩
            · obtain rfl : k = pd.length := by omega
              go_wp2_with fail
              go_roundg (ss.length - (i + 1))
              case measure => omega
              case rel => exact ⟨i + 1, by omega, rfl, by go_num, unhide Hb7⟩
        · obtain rfl : i = ss.length := by omega
          have Hfin := hide (((unhide Hb2).then' (unhide Hb2).size (unhide HB5)).then' (by have h1 := (unhide Hb2).size; have h2 := (unhide HB5).size; omega) (unhide Hb6))
          go_wp2_with fail
          go_ret
          exact ⟨rfl, unhide Hfin⟩

end Go.Proofs.YtdchbenfccofpaaGreatDoor
namespace Go.Proofs.YtdchbenfccofpaaGreatDoor
open Go.RowKit Db

set_option maxRecDepth 100000 in
set_option maxHeartbeats 2000000 in
theorem coded_any (B p : Nat) (b : Bk) (s u : ByteArray) (er : Int) (w : World) (h : Rfd w B p b) (hm : s.size ≤ maxLen) (hc : CompIs s u er) :
    Calls Tryz.prog 45 #[.pointer (some ⟨p, 0, none⟩), .string s, .string u, .int .i64 er] w fun e w' => e = .returned (.bool true) ∧ Below w.heap.size w w' := by
  rcases hc with ⟨hs, rfl, rfl⟩ | ⟨hs, rfl, hp, rfl⟩ | ⟨hs, pd, rows, pss, pl, hf, ho, ⟨h0, rfl⟩ | ⟨rfl, hu, hus, hbd⟩⟩
  · clear h
    go_enter Tryz.func45, Tryz.ntmps45
    go_wp2_with fail
    refine (refRead_long s _ hs hm).mono ?_
    rintro e w1 ⟨rfl, hb⟩
    have Hb := hide hb
    have hsz := hb.size
    clear hb
    go_wp2_with fail
    go_ret
    exact ⟨rfl, (unhide Hb).alloc hsz _⟩
  · obtain ⟨pp, hpp⟩ : ∃ pp, plc 0 0 0 0 (L s) = pp := ⟨_, rfl⟩
    have Hp := hide hp
    have Hpp := hide hpp
    clear hp hpp h
    go_enter Tryz.func45, Tryz.ntmps45
    go_wp2_with fail
    refine (refRead_form s _ hs (unhide Hp)).mono ?_
    rintro e w1 ⟨rfl, hb⟩
    rw [unhide Hpp]
    have Hb := hide hb
    have hsz := hb.size
    clear hb
    go_wp2_with fail
    go_ret
    exact ⟨rfl, (unhide Hb).alloc hsz _⟩
  · have Hf := hide hf
    have Ho := hide ho
    have hne : (er == 0) = false := by simpa using h0
    have e1 : (er == er) = true := by simp
    clear hf ho h
    go_enter Tryz.func45, Tryz.ntmps45
    go_wp2_with fail
    refine (refRead_ok s _ hs pd rows pss (unhide Hf)).mono ?_
    rintro e w1 ⟨a1, n1, k1, a2, n2, k2, a3, n3, k3, er', pl', rfl, ho', hb, _⟩
    have hh := (unhide Ho).symm.trans ho'
    simp only [Prod.mk.injEq] at hh
    obtain ⟨rfl, rfl⟩ := hh
    have Hb := hide hb
    have hsz := hb.size
    clear hb ho'
    go_wp2_with fail
    go_ret
    exact ⟨rfl, (unhide Hb).alloc hsz _⟩
  · exact coded_ok B p b s u w hs pd rows pss pl hf ho h hu hus hbd

set_option maxRecDepth 100000 in
set_option maxHeartbeats 4000000 in
theorem compiled_any (B q c : Nat) (v0 v2 v3 : Value) (tq : Nat) (s : Bk) (kd bk a b : Int) (ao : Option Addr) (n cap : Nat) (t : ByteArray) (w : World) (hq : Blk w q #[v0, .pointer (some ⟨c, 0, none⟩), v2, v3] tq) (h : Rfd w B c s) (hm : t.size ≤ maxLen) (ht : Tab w) :
    Calls Tryz.prog 16 #[.pointer (some ⟨q, 0, none⟩), .agg #[.int .i64 kd, .int .i64 bk, .int .i64 a, .int .i64 b, .slice ao n cap, .string t]] w fun e w' => e = .returned (.bool true) ∧ Below w.heap.size w w' := by
  obtain ⟨bx, hbx⟩ : ∃ bx, w.heap.size = bx := ⟨_, rfl⟩
  obtain ⟨W, hW⟩ : ∃ W, w.alloc (.cells #[.int .i64 kd, .int .i64 bk, .int .i64 a, .int .i64 b, .slice ao n cap, .string t] 33) = W := ⟨_, rfl⟩
  have HX : Hid (Blk W bx #[.int .i64 kd, .int .i64 bk, .int .i64 a, .int .i64 b, .slice ao n cap, .string t] 33) := by rw [← hW, ← hbx]; exact Blk.new _ _ _
  have Hb0 : Hid (Below w.heap.size w W) := by rw [← hW]; exact (Below.refl _ _).alloc (Nat.le_refl _) _
  have hWs : w.heap.size ≤ W.heap.size := (unhide Hb0).size
  have Hop := hide (fun (wx : World) (hb : Below w.heap.size w wx) => dayCompile_any t wx hm (ht.below hb))
  have Hor := hide (fun (wx : World) (u : ByteArray) (er : Int) (hb : Below w.heap.size w wx) (hc : CompIs t u er) => coded_any B c s t u er wx (h.kept hb) hm hc)
  have Hq := hide (hq.kept (unhide Hb0))
  have x5 := (unhide HX).cell 5
  simp only [List.getElem?_toArray, List.getElem?_cons_zero, List.getElem?_cons_succ] at x5
  clear h hq
  go_enter Tryz.func16, Tryz.ntmps16
  go_wp2_with fail
  try rw [hW]
  try rw [hbx]
  have Hbx := hide hbx
  clear hW hbx
  refine (unhide Hop _ (by exact (unhide Hb0))).mono ?_
  rintro e w4 ⟨u, er, rfl, hu, hb4⟩
  have Hu := hide hu
  have Hb4 := hide ((unhide Hb0).then' hWs hb4)
  have k1 := ((unhide Hq).kept hb4).cell 1
  have k5 := ((unhide HX).kept hb4).cell 5
  simp only [List.getElem?_toArray, List.getElem?_cons_zero, List.getElem?_cons_succ] at k1 k5
  have hs4 : w.heap.size ≤ w4.heap.size := (unhide Hb4).size
  clear hu hb4 x5
  go_upto_region 2 with fail
  go_region_held3 (fun w' => w'.cell? ⟨q, 1, none⟩ = some (.pointer (some ⟨c, 0, none⟩)) ∧ w'.cell? ⟨bx, 5, none⟩ = some (.string t)) (first | go_keep | exact ⟨kept_cell' hb5 (by simp [*]), kept_cell' hb5 (by simp [*])⟩) (first | (go_at_call 45; refine (unhide Hor _ u er (by exact (unhide Hb4).drew) (unhide Hu)).mono ?_; rintro e w5 ⟨rfl, hb5⟩))
  have Hb5 := hide ((unhide Hb4).then' hs4 hb5.undrew)
  clear hb5
  go_wp2_with fail
  go_ret
  exact ⟨rfl, unhide Hb5⟩

end Go.Proofs.YtdchbenfccofpaaGreatDoor
namespace Go.Proofs.YtdchbenfccofpaaGreatDoor
open Go.RowKit Db

/-- The law's pair, with the document's book alone. -/
structure LoneAt (w : World) (B q c : Nat) (s : Bk) : Prop where
  blk : Blk w q #[.pointer none, .pointer (some ⟨c, 0, none⟩), .slice none 0 0, .slice none 0 0] 30
  rfd : Rfd w B c s
theorem LoneAt.step {w w' : World} {B q c : Nat} {s s' : Bk} (h : LoneAt w B q c s) (hf : FrT B tR w w') (hr : Rfd w' B c s') : LoneAt w' B q c s' :=
  ⟨h.blk.frT hf (by decide), hr⟩

set_option maxRecDepth 100000 in
set_option maxHeartbeats 4000000 in
theorem compiles_walk (t : ByteArray) (v : Value) (xs : List ActV) (w : World) (hm : t.size ≤ maxLen) (h : ActsAt w w.heap.size v xs) (hlen : xs.length ≤ 9223372036854775800) (ht : Tab w) :
    Calls Tryz.prog 3 #[.string t, v] w fun e w' => e = .returned (.bool true) ∧ Below w.heap.size w w' := by
  obtain ⟨ao, cap, rfl⟩ : ∃ ao cap, v = .slice ao xs.length cap := by obtain ⟨⟨ao, cap, rfl, _⟩, _⟩ := h; exact ⟨ao, cap, rfl⟩
  have H := hide h
  have Ht := hide ht
  clear h ht
  go_enter Tryz.func3, Tryz.ntmps3
  go_wp2_with fail
  refine (refNew_any _).mono ?_
  rintro e w1 ⟨c, rfl, hc, hb1⟩
  obtain ⟨W, hW⟩ : ∃ W, w1.alloc (.cells #[.pointer none, .pointer (some ⟨c, 0, none⟩), .slice none 0 0, .slice none 0 0] 30) = W := ⟨_, rfl⟩
  have hal : Below w1.heap.size w1 W := by rw [← hW]; exact (Below.refl _ _).alloc (Nat.le_refl _) _
  obtain ⟨q, hq⟩ : ∃ q, w1.heap.size = q := ⟨_, rfl⟩
  have H1 : Hid (LoneAt W w.heap.size q c bk0) := ⟨by rw [← hW, ← hq]; exact Blk.new _ _ _, hc.kept hal⟩
  have Hb1 : Hid (Below w.heap.size w W) := hb1.then' hb1.size hal
  clear hc hb1 hal
  go_wp2_with fail
  try rw [hW]
  try rw [hq]
  clear hW hq
  go_loopg [7] xs.length (fun m i wr => ∃ j : Nat, j ≤ xs.length ∧ m = xs.length - j ∧ i = .int .i64 j ∧ Hid (LoneAt wr w.heap.size q c (run bk0 (xs.take j))) ∧ Hid (Below w.heap.size w wr))
  case atStart => exact ⟨0, by omega, rfl, rfl, unhide H1, unhide Hb1⟩
  case round =>
    obtain ⟨j, hj, rfl, rfl, HP, Hb⟩ := hrel
    by_cases hlt : j < xs.length
    · obtain ⟨x, hx⟩ : ∃ x, xs[j]? = some x := ⟨xs[j], List.getElem?_eq_getElem hlt⟩
      have hat := (unhide H).below (unhide Hb)
      have Hst := hide (run_step (s := bk0) hx)
      have Hok := hide (hat.oks x (List.mem_of_getElem? hx))
      obtain ⟨⟨ao', cap', e1, hr⟩, _⟩ := hat
      simp only [Value.slice.injEq, true_and] at e1
      obtain ⟨rfl, rfl⟩ := e1
      have hr2 := hr.resolve_left (by rintro rfl; simp at hx)
      obtain ⟨b, off, rfl, hbl, hc⟩ := hr2
      have hcx := hc j x hx
      obtain ⟨d0, _, d2, d3, d4, _⟩ := hcx
      have hjj : (j : Int) < (xs.length : Int) := by omega
      have hsz := (unhide Hb).size
      clear hr hc hx
      by_cases h1 : x.kd = 1
      · have Hop : Hid (Calls Tryz.prog 13 #[.pointer (some ⟨c, 0, none⟩), .int .i64 x.a] wr fun e w' => ∃ v, e = .returned v ∧ LoneAt w' w.heap.size q c (run bk0 (xs.take (j + 1))) ∧ Below w.heap.size wr w') := by
          refine (refOpen_any _ _ _ x.a wr (unhide HP).rfd).mono ?_
          rintro e w2 ⟨rfl, k1, k2⟩
          refine ⟨_, rfl, ?_, k2.below hsz⟩
          rw [unhide Hst]
          simp only [does, stp, h1]
          exact (unhide HP).step k2 k1
        rw [h1] at d0
        clear h1 Hst
        go_wp2_with fail
        refine (unhide Hop).mono ?_
        rintro e w2 ⟨v2, rfl, k1, k2⟩
        have HP2 := hide k1
        have Hb2 : Hid (Below w.heap.size w w2) := (unhide Hb).trans k2
        clear k1 k2
        go_wp2_with fail
        go_roundg (xs.length - (j + 1))
        case measure => omega
        case rel => exact ⟨j + 1, by omega, rfl, by go_num, unhide HP2, unhide Hb2⟩
      by_cases h2 : x.kd = 2
      · have Hop : Hid (Calls Tryz.prog 14 #[.pointer (some ⟨c, 0, none⟩), .int .i64 x.a] wr fun e w' => ∃ v, e = .returned v ∧ LoneAt w' w.heap.size q c (run bk0 (xs.take (j + 1))) ∧ Below w.heap.size wr w') := by
          refine (refClose_any _ _ _ x.a wr (unhide HP).rfd).mono ?_
          rintro e w2 ⟨rfl, k1, k2⟩
          refine ⟨_, rfl, ?_, k2.below hsz⟩
          rw [unhide Hst]
          simp only [does, stp, h2]
          exact (unhide HP).step k2 k1
        rw [h2] at d0
        clear h1 h2 Hst
        go_wp2_with fail
        refine (unhide Hop).mono ?_
        rintro e w2 ⟨v2, rfl, k1, k2⟩
        have HP2 := hide k1
        have Hb2 : Hid (Below w.heap.size w w2) := (unhide Hb).trans k2
        clear k1 k2
        go_wp2_with fail
        go_roundg (xs.length - (j + 1))
        case measure => omega
        case rel => exact ⟨j + 1, by omega, rfl, by go_num, unhide HP2, unhide Hb2⟩
      by_cases h3 : x.kd = 3
      · have Hop : Hid (∀ wx : World, Below wr.heap.size wr wx → Calls Tryz.prog 15 #[.pointer (some ⟨c, 0, none⟩), .int .i64 x.a, .int .i64 x.b, .slice x.ao x.ls.length x.cap] wx fun e w' => ∃ v, e = .returned v ∧ LoneAt w' w.heap.size q c (run bk0 (xs.take (j + 1))) ∧ Below w.heap.size wr w') := by
          intro wx hb
          refine (refPost_any _ _ _ x.a x.b _ x.ls wx ((unhide HP).rfd.kept hb) ((unhide Hok).at'.kept hb)).mono ?_
          rintro e w2 ⟨rfl, k1, k2⟩
          have k3 : FrT w.heap.size tR wr w2 := (FrT.of_below hb).trans k2
          refine ⟨_, rfl, ?_, k3.below hsz⟩
          rw [unhide Hst]
          simp only [does, stp, h3]
          exact (unhide HP).step k3 k1
        rw [h3] at d0
        clear h1 h2 h3 Hst
        go_upto_region 12 with fail
        go_region_held3 (fun w' => w'.cell? ⟨b, off + j * 6 + 2, none⟩ = some (.int .i64 x.a) ∧ w'.cell? ⟨b, off + j * 6 + 3, none⟩ = some (.int .i64 x.b) ∧ w'.cell? ⟨b, off + j * 6 + 4, none⟩ = some (.slice x.ao x.ls.length x.cap)) (first | go_keep | exact ⟨(k2.cell (p := ⟨b, off + j * 6 + 2, none⟩) hbl).trans d2, (k2.cell (p := ⟨b, off + j * 6 + 3, none⟩) hbl).trans d3, (k2.cell (p := ⟨b, off + j * 6 + 4, none⟩) hbl).trans d4⟩) (first | (go_at_call 15; refine (unhide Hop _ (by exact (Below.refl _ _).drew)).mono ?_; rintro e w2 ⟨v2, rfl, k1, k2⟩))
        have HP2 := hide k1
        have Hb2 : Hid (Below w.heap.size w w2) := (unhide Hb).trans k2
        clear k1 k2
        go_wp2_with fail
        go_roundg (xs.length - (j + 1))
        case measure => omega
        case rel => exact ⟨j + 1, by omega, rfl, by go_num, unhide HP2, unhide Hb2⟩
      have HP2 : Hid (LoneAt wr w.heap.size q c (run bk0 (xs.take (j + 1)))) := by
        show LoneAt _ _ _ _ _
        rw [unhide Hst]
        have hd : does x.kd = false := by unfold does; simp [h1, h2, h3]
        rw [hd]
        exact unhide HP
      obtain ⟨kd, hkd⟩ : ∃ kd, x.kd = kd := ⟨_, rfl⟩
      rw [hkd] at d0 h1 h2 h3
      have n1 : (kd == 1) = false := by simpa using h1
      have n2 : (kd == 2) = false := by simpa using h2
      have n3 : (kd == 3) = false := by simpa using h3
      clear hkd Hst h1 h2 h3
      go_wp2_with fail
      go_roundg (xs.length - (j + 1))
      case measure => omega
      case rel => exact ⟨j + 1, by omega, rfl, by go_num, unhide HP2, unhide Hb⟩
    · obtain rfl : j = xs.length := by omega
      have hsz := (unhide Hb).size
      have Hc := hide (compiled_any w.heap.size q c _ _ _ _ _ 0 0 0 0 none 0 0 t wr (unhide HP).blk (unhide HP).rfd hm ((unhide Ht).below (unhide Hb)))
      go_wp2_with fail
      refine (unhide Hc).mono ?_
      rintro e w2 ⟨rfl, hb2⟩
      have Hb2 := hide ((unhide Hb).then' hsz hb2)
      clear hb2
      go_wp2_with fail
      go_ret
      exact ⟨rfl, unhide Hb2⟩

end Go.Proofs.YtdchbenfccofpaaGreatDoor
