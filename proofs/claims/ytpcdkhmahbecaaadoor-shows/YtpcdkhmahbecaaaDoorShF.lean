/- Walks of Show: showRow. -/
import Derived.Test.YtpcdkhmahbecaaaDoorShE
import Derived.Deep.RegionHeld3
import Derived.Deep.DeepCutAuto
namespace Go.Proofs.YtpcdkhmahbecaaaDoor
open Go.RowKit Db

theorem word_short {s n : Int} (h0 : -9223372036854775808 ≤ n) (h1 : n ≤ 9223372036854775807) {u : ByteArray} (hu : L u = wordP (s, n)) : u.size ≤ 22 := by
  rw [size_L, hu]
  have := Lib.itoa_length_le n h0 h1
  unfold wordP
  split
  · show (Lib.itoa n).length ≤ 22; omega
  · show (u8 s :: Lib.itoa n).length ≤ 22; rw [List.length_cons]; omega

theorem kept_cell {W W' : World} (h : Below W.heap.size W W') {a : Addr} {v : Value} (hc : W.cell? a = some v) : W'.cell? a = some v := by
  rw [h.cell (World.block_lt_of_cell? W a hc)]; exact hc

theorem kept_alloc {W W' : World} {o : Obj} (h : Below W.heap.size W W') {a : Addr} {v : Value} (hc : W.cell? a = some v) : (W'.alloc o).cell? a = some v := by
  have h1 := kept_cell h hc
  rw [World.cell?_alloc_some _ _ _ (by rw [h1]; rfl)]; exact h1

/-- The piece that was joined lies in its block. -/
structure CutR (w3 wx : World) (g : Nat) (u : ByteArray) (k : Nat) : Prop where
  ge : w3.heap.size ≤ g
  blk : Blk wx g #[.string u, .int .i64 (k : Int)] 118
  bel : Below w3.heap.size w3 wx
theorem cutA {w3 w4 : World} {u : ByteArray} {k : Nat} (h : Below (w3.drew.alloc (.cells #[.string ⟨#[]⟩, .int .i64 0] 118)).heap.size (w3.drew.alloc (.cells #[.string ⟨#[]⟩, .int .i64 0] 118)) w4) :
    CutR w3 ((w4.setCell ⟨w3.heap.size, 0, none⟩ (.string u)).setCell ⟨w3.heap.size, 1, none⟩ (.int .i64 (k : Int))) w3.heap.size u k := by
  have B0 : Blk w4 w3.heap.size #[.string ⟨#[]⟩, .int .i64 0] 118 := (Blk.new w3.drew _ _).kept h
  have B1 := (B0.set 0 (.string u)).set 1 (.int .i64 (k : Int))
  have h0 : Below w3.heap.size w3.drew w4 := ((Below.refl _ w3.drew).alloc (Nat.le_refl _) _).then' (by simp) h
  exact ⟨Nat.le_refl _, by simpa using B1, (h0.undrew.setCell (by simp) _).setCell (by simp) _⟩
theorem cutB {w3 w4 : World} {u : ByteArray} {k : Nat} (h : Below w3.drew.heap.size w3.drew w4) :
    CutR w3 (w4.alloc (.cells #[.string u, .int .i64 (k : Int)] 118)) w4.heap.size u k := by
  have h0 : Below w3.heap.size w3 w4 := Below.undrew h
  exact ⟨h0.size, Blk.new _ _ _, h0.alloc h0.size _⟩

set_option maxRecDepth 100000 in
set_option maxHeartbeats 4000000 in
theorem showRow_any (vp : Value) (ps : List Pt) (B : Nat) (w : World) (hp : w.ownsRow B 109 2 vp ps.length (cellsP ps)) (hn : ∀ p ∈ ps, -9223372036854775808 ≤ p.2 ∧ p.2 ≤ 9223372036854775807)
    (hdp : dpt ps 0 = some 1) (z : Pc) (hz : ShowR ps z) (hpl : ps.length ≤ 200) (ht : Tab w) :
    Calls Tryd.prog 27 #[.agg #[vp]] w fun e w' => ∃ u : ByteArray, e = .returned (.string u) ∧ L u = z.1 ∧ u.size ≤ 5000 ∧ Below w.heap.size w w' := by
  obtain ⟨ii, hi, hz0, hz1, hz2⟩ := info_parts info_shown
  obtain ⟨aop, capp, rfl⟩ := ownsRow_form hp
  have Hp := hide hp
  have Hn := hide hn
  have Hz := hide hz
  have Ht := hide ht
  have Hst : Hid (SLoop w (w.alloc (.cells #[.slice aop ps.length capp] 74)) ps 0 [] (.slice none 0 0)) := ⟨hdp, rfl, World.ownsRow_nil _ _ _ _, (Below.refl _ _).alloc (Nat.le_refl _) _, Nat.le_refl _⟩
  clear hp hn hz ht hdp
  go_enter Tryd.func27, Tryd.ntmps27
  go_wp2_with fail
  go_loopg [3, 11] ps.length (fun m vq i wr => ∃ j : Nat, ∃ q : List Sw, j ≤ ps.length ∧ m = ps.length - j ∧ i = .int .i64 j ∧ q.length ≤ j ∧ w.heap.size < wr.heap.size ∧ Hid (SLoop w wr ps j q vq))
  case atStart => exact ⟨0, [], by omega, rfl, rfl, by simp, by simp, unhide Hst⟩
  case round =>
    obtain ⟨j, q, hj, rfl, rfl, hq, hsz, Hl⟩ := hrel
    obtain ⟨aoq, capq, hvq⟩ := ownsRow_form (unhide Hl).own
    subst hvq
    by_cases hlt : j < ps.length
    · obtain ⟨pj, hpj⟩ : ∃ pj, ps[j]? = some pj := ⟨ps[j], List.getElem?_eq_getElem hlt⟩
      obtain ⟨g2, _, e1, hg2, hg2'⟩ := ownsRow_some (unhide Hp) (by omega)
      simp only [Value.slice.injEq, true_and] at e1
      obtain ⟨rfl, rfl⟩ := e1
      have hc := pair_get (fun p : Pt => Value.int .u8 p.1) (fun p => Value.int .i64 p.2) ps j pj hpj
      have hro := ownsRow_below (unhide Hp) (unhide Hl).bel
      have d1 := ownsRow_cell hro (j := j * 2) hc.1
      have d2 := ownsRow_cell hro (j := j * 2 + 1) hc.2
      have Hnj := hide (unhide Hn pj (List.mem_of_getElem? hpj))
      have Hpj := hide hpj
      clear hro hc hpj
      obtain ⟨s, n⟩ := pj
      simp only at d1 d2 Hnj
      go_wp2_with fail
      refine (isOperand_any s n _).mono ?_
      rintro e w3 ⟨rfl, hb3⟩
      have f0 := hb3.cell (p := ⟨wr.heap.size, 0, none⟩) (by simp)
      have f1 := hb3.cell (p := ⟨wr.heap.size, 1, none⟩) (by simp)
      have hb3s := hb3.size
      simp at f0 f1 hb3s
      have Hb3 : Hid (Below w.heap.size w w3) := ((unhide Hl).bel.alloc (by omega) _).then' (by simp; omega) hb3
      have Hq3 := hide (ownsRow_below ((unhide Hl).own.alloc _) hb3)
      clear hb3
      cases ho : opdB s with
      | true =>
        have Hoo := hide ho
        go_wp2_with fail
        refine (word_any s n _ (unhide Hoo) (unhide Hnj).1 (unhide Hnj).2 ((unhide Ht).below (unhide Hb3))).mono ?_
        rintro e w4 ⟨u, rfl, hu, hb4⟩
        have Hus := hide (word_short (unhide Hnj).1 (unhide Hnj).2 hu)
        have Hb4 := hide ((unhide Hb3).then' (by omega) hb4)
        have Hq4 := hide (ownsRow_below (unhide Hq3) hb4)
        have hb4s := hb4.size
        have Hu := hide hu
        clear hb4 hu
        go_wp2_with (first
          | (at_builtin; refine wpList_append_own _ rfl (.tmp 19) (.tmp 23) 115 rfl w.heap.size 118 ii (.agg #[.string ⟨#[]⟩, .int .i64 0]) 2 24 Tryd.underlying115 hi hz0 hz1 hz2 rfl (by decide) (.slice aoq q.length capq) q.length _ rfl ((unhide Hq4).alloc _) ⟨w4.heap.size, 0, none⟩ 1 1 [.string u, .int .i64 3] rfl rfl (cell_two_new' _ _ (by simp) _ _ _) (fun x hx => by simp at hx; rcases hx with rfl | rfl <;> rfl) (by unfold maxLen; omega) (by omega) (by simp; omega) ?_; intro vq' w5 hown5 hgr5 _; obtain ⟨gf, cf, rfl, hgf, hgf'⟩ := ownsRow_some hown5 (Nat.succ_pos _)))
        have hb5 : Below w.heap.size w w5 := ((unhide Hb4).alloc (by omega) _).grown hgr5 (by simp; omega) (fun g hg => ((unhide Hq4).lt g hg).1)
        have Hl5 := hide ((unhide Hl).opnd (unhide Hpj) (unhide Hoo) (unhide Hu) (unhide Hus) hown5 hb5)
        have hsz5 := hgr5.size
        simp at hsz5
        clear hown5 hgr5 hb5
        go_wp2_with fail
        go_roundg (ps.length - (j + 1))
        case measure => omega
        case rel => exact ⟨j + 1, q ++ [(u, 3)], by omega, rfl, by go_num, by simp; omega, by omega, unhide Hl5⟩
      | false =>
        have Hoo := hide ho
        by_cases h126 : s = 126
        · subst h126
          have h1 := (unhide Hl).one (unhide Hpj) (unhide Hoo) rfl
          obtain ⟨qq, x, rfl⟩ := snoc1s q h1
          obtain ⟨ux, rx⟩ := x
          have hlen : (qq ++ [(ux, rx)]).length = qq.length + 1 := by simp
          simp only [hlen] at Hq3 hq Hl ⊢
          obtain ⟨gp, _, e1, hgp, hgp'⟩ := ownsRow_some (unhide Hq3) (by omega)
          simp only [Value.slice.injEq, true_and] at e1
          obtain ⟨rfl, rfl⟩ := e1
          have p1 := ownsRow_cell (unhide Hq3) (j := qq.length * 2) (u := .string ux) (by rw [cellsS_append, List.getElem?_append_right (by rw [cellsS_length]; omega), cellsS_length]; simp [cellsS])
          have p2 := ownsRow_cell (unhide Hq3) (j := qq.length * 2 + 1) (u := .int .i64 rx) (by rw [cellsS_append, List.getElem?_append_right (by rw [cellsS_length]; omega), cellsS_length]; simp [cellsS])
          have hux := (unhide Hl).sz
          rw [szs_snoc] at hux
          simp only at hux
          clear hlen h1
          go_wp2_with fail
          refine (showOpposite_any ux rx _ (by omega)).mono ?_
          rintro e w4 ⟨u, rfl, hu, hb4⟩
          have Hq4 := hide (ownsRow_below (unhide Hq3) hb4)
          have Hb4 := hide ((unhide Hb3).then' (by omega) hb4)
          have hb4s := hb4.size
          have z0 := ownsRow_frozen (unhide Hq4) (qq.length * 2)
          have z1 := ownsRow_frozen (unhide Hq4) (qq.length * 2 + 1)
          have hown5 := own_last (unhide Hq4) u 3
          have Hl5 := hide ((unhide Hl).neg (unhide Hpj) (unhide Hoo) rfl hu hown5 (((unhide Hb4).setCell (by show w.heap.size ≤ gp; exact hgp) _).setCell (by show w.heap.size ≤ gp; exact hgp) _))
          have r1 := ownsRow_cell (unhide Hq4) (j := qq.length * 2) (u := .string ux) (by rw [cellsS_append, List.getElem?_append_right (by rw [cellsS_length]; omega), cellsS_length]; simp [cellsS])
          have r2 := ownsRow_cell (unhide Hq4) (j := qq.length * 2 + 1) (u := .int .i64 rx) (by rw [cellsS_append, List.getElem?_append_right (by rw [cellsS_length]; omega), cellsS_length]; simp [cellsS])
          clear hb4 hu p1 p2 hown5
          go_wp2_with fail
          go_roundg (ps.length - (j + 1))
          case measure => omega
          case rel => exact ⟨j + 1, qq ++ [(u, 3)], by omega, rfl, by go_num, by simp; omega, by simp [World.setCell]; omega, unhide Hl5⟩
        · have n126 : (s == 126) = false := by simpa using h126
          have h2 := (unhide Hl).two (unhide Hpj) (unhide Hoo) h126
          obtain ⟨qq, x, y, rfl⟩ := snoc2s q h2.2
          obtain ⟨ux, rx⟩ := x
          obtain ⟨uy, ry⟩ := y
          have Hop := hide h2.1
          obtain ⟨c, hcu⟩ : ∃ c : UInt8, u8 s = c := ⟨_, rfl⟩
          have hs8 := opB_u8 h2.1
          rw [hcu] at hs8
          subst hs8
          have Hcu := hide hcu
          clear h126 h2 hcu
          have hlen : (qq ++ [(ux, rx), (uy, ry)]).length = qq.length + 2 := by simp
          simp only [hlen] at Hq3 hq Hl ⊢
          obtain ⟨gp, _, e1, hgp, hgp'⟩ := ownsRow_some (unhide Hq3) (by omega)
          simp only [Value.slice.injEq, true_and] at e1
          obtain ⟨rfl, rfl⟩ := e1
          have hux := (unhide Hl).sz
          rw [szs_snoc2] at hux
          simp only at hux
          have hcc : ∀ (k : Nat) (v : Value), [Value.string ux, .int .i64 rx, .string uy, .int .i64 ry][k]? = some v → (cellsS (qq ++ [(ux, rx), (uy, ry)]))[qq.length * 2 + k]? = some v := by
            intro k v hk
            rw [cellsS_append, List.getElem?_append_right (by rw [cellsS_length]; omega), cellsS_length, show qq.length * 2 + k - qq.length * 2 = k by omega]
            exact hk
          have p1 := ownsRow_cell (unhide Hq3) (j := qq.length * 2) (u := .string ux) (hcc 0 _ rfl)
          have p2 := ownsRow_cell (unhide Hq3) (j := qq.length * 2 + 1) (u := .int .i64 rx) (hcc 1 _ rfl)
          have p3 := ownsRow_cell (unhide Hq3) (j := (qq.length + 1) * 2) (u := .string uy) (by rw [show (qq.length + 1) * 2 = qq.length * 2 + 2 by omega]; exact hcc 2 _ rfl)
          have p4 := ownsRow_cell (unhide Hq3) (j := (qq.length + 1) * 2 + 1) (u := .int .i64 ry) (by rw [show (qq.length + 1) * 2 + 1 = qq.length * 2 + 3 by omega]; exact hcc 3 _ rfl)
          have e2 : (qq.length : Int) + 2 - 1 = (qq.length : Int) + 1 := by omega
          have wq0 : IntKind.i64.wrap (qq.length : Int) = qq.length := by rw [IntKind.wrap_i64]; omega
          have wq1 : IntKind.i64.wrap ((qq.length : Int) + 1) = (qq.length : Int) + 1 := by rw [IntKind.wrap_i64]; omega
          have tq1 : ((qq.length : Int) + 1).toNat = qq.length + 1 := by omega
          have lq1 : (0 : Int) ≤ (qq.length : Int) + 1 := by omega
          have lq0 : (0 : Int) ≤ (qq.length : Int) := by omega
          have lq3 : (qq.length : Int) < (qq.length : Int) + 2 := by omega
          have e3 : (qq.length : Int) + 2 - 2 = (qq.length : Int) := by omega
          have tq0 : (qq.length : Int).toNat = qq.length := by omega
          have lq2 : (qq.length : Int) + 1 < (qq.length : Int) + 2 := by omega
          have Hcc := hide hcc
          have hlt1 : wr.heap.size < w3.heap.size := by omega
          have hlt2 : gp < w3.heap.size := by omega
          have hne1 : w3.heap.size ≠ wr.heap.size := by omega
          have hne2 : w3.heap.size ≠ gp := by omega
          clear hlen hcc
          go_upto_region 11 with fail
          have HC := hide (fun (w4 : World) (u : ByteArray) => cutA (w3 := w3) (w4 := w4) (u := u) (k := rkS (c.toNat : Int)))
          have HD := hide (fun (w4 : World) (u : ByteArray) => cutB (w3 := w3) (w4 := w4) (u := u) (k := rkS (c.toNat : Int)))
          go_cut [7] (fun vj wx => ∃ u : ByteArray, ∃ g : Nat, vj = .pointer (some ⟨g, 0, none⟩) ∧ L u = brk (L ux, rx) (rkS (c.toNat : Int)) ++ c :: brk (L uy, ry) (rkS (c.toNat : Int) + 1) ∧ CutR w3 wx g u (rkS (c.toNat : Int)))
          case first =>
            have hcall := fun wx => showOperation_any c ux uy rx ry wx (by omega) (by omega)
            clear hux hq Hp Hn Hz Ht Hst Hl Hq3 Hb3 Hcc Hop Hcu Hoo Hpj Hnj d1 d2
            go_region_held3 (fun w' => w'.cell? ⟨wr.heap.size, 0, none⟩ = some (.int .u8 (c.toNat : Int)) ∧ w'.cell? ⟨gp, qq.length * 2, none⟩ = some (.string ux) ∧ w'.cell? ⟨gp, qq.length * 2 + 1, none⟩ = some (.int .i64 rx) ∧ w'.cell? ⟨gp, (qq.length + 1) * 2, none⟩ = some (.string uy) ∧ w'.cell? ⟨gp, (qq.length + 1) * 2 + 1, none⟩ = some (.int .i64 ry)) (first | go_keep | exact ⟨kept_cell hb4 (by simp [*]), kept_cell hb4 (by simp [*]), kept_cell hb4 (by simp [*]), kept_cell hb4 (by simp [*]), kept_cell hb4 (by simp [*])⟩ | exact ⟨kept_alloc hb4 (by simp [*]), kept_alloc hb4 (by simp [*]), kept_alloc hb4 (by simp [*]), kept_alloc hb4 (by simp [*]), kept_alloc hb4 (by simp [*])⟩) (first | (go_at_call 53; refine (hcall _).mono ?_; rintro e w4 ⟨u, rfl, hu, hb4⟩; have k0 := fun h => hb4.cell (p := ⟨w3.heap.size, 0, none⟩) h; have k1 := fun h => hb4.cell (p := ⟨w3.heap.size, 1, none⟩) h; have y0 := fun h => hb4.frozen (p := ⟨w3.heap.size, 0, none⟩) h; have y1 := fun h => hb4.frozen (p := ⟨w3.heap.size, 1, none⟩) h; simp at k0 k1 y0 y1))
            all_goals (try go_wp2_with fail)
            all_goals go_meet
            all_goals first
              | exact ⟨u, w3.heap.size, rfl, hu, unhide HC w4 u hb4⟩
              | exact ⟨u, w4.heap.size, rfl, hu, unhide HD w4 u hb4⟩
          case rest =>
            obtain ⟨u, g, rfl, hu, hr⟩ := hcut
            have Hb5 := hide ((unhide Hb3).then' (by omega) hr.bel)
            have Hq5 := hide (ownsRow_below (unhide Hq3) hr.bel)
            have c0 := hr.blk.cell 0
            have c1 := hr.blk.cell 1
            simp only [List.getElem?_toArray, List.getElem?_cons_zero, List.getElem?_cons_succ] at c0 c1
            have hszc := hr.bel.size
            have hown5 := own_last (own_less (unhide Hq5)) u (rkS (c.toNat : Int))
            have Hl5 := hide ((unhide Hl).join (unhide Hpj) (unhide Hop) (by rw [unhide Hcu]; exact hu) hown5 (((unhide Hb5).setCell (by show w.heap.size ≤ gp; exact hgp) _).setCell (by show w.heap.size ≤ gp; exact hgp) _))
            have z0 := ownsRow_frozen (unhide Hq5) (qq.length * 2)
            have z1 := ownsRow_frozen (unhide Hq5) (qq.length * 2 + 1)
            have r1 := ownsRow_cell (unhide Hq5) (j := qq.length * 2) (u := .string ux) (unhide Hcc 0 _ rfl)
            have r2 := ownsRow_cell (unhide Hq5) (j := qq.length * 2 + 1) (u := .int .i64 rx) (unhide Hcc 1 _ rfl)
            have hcap : qq.length + 1 ≤ capq := by
              rcases (unhide Hq3).2 with ⟨h0, _⟩ | ⟨g', cap', cur, hv, _, _, hn, _⟩
              · cases h0
              · cases hv; omega
            clear hu hr hown5 p1 p2 p3 p4 f0 f1
            go_wp2_with fail
            go_roundg (ps.length - (j + 1))
            case measure => omega
            case rel => exact ⟨j + 1, qq ++ [(u, rkS (c.toNat : Int))], by omega, rfl, by go_num, by simp; omega, by simp [World.setCell]; omega, unhide Hl5⟩
    · obtain ⟨x, rfl, hx⟩ := (unhide Hl).done (by omega) (unhide Hz)
      obtain ⟨g, _, e1, hg, hg'⟩ := ownsRow_some (unhide Hl).own (by simp)
      simp only [Value.slice.injEq, true_and] at e1
      obtain ⟨rfl, rfl⟩ := e1
      have c0 := ownsRow_cell (unhide Hl).own (j := 0) rfl
      have hsx := (unhide Hl).sz
      have Hx := hide hx
      simp [szs] at hsx
      clear hx
      go_wp2_with fail
      go_ret
      exact ⟨x.1, rfl, unhide Hx, by omega, (unhide Hl).bel⟩

end Go.Proofs.YtpcdkhmahbecaaaDoor
