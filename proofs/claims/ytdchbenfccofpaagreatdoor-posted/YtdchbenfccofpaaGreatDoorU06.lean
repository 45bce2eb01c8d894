/- The law's pair of books: played; Accounted. Steps that came in: from the reading of the argument to the lists that the walk wants. Walks of the books: the program's Journal. Walks of the books: the document's Journal; Posted. -/
import Derived.Test.YtdchbenfccofpaaGreatDoorU05
import Derived.Deep.SlicePairs
import Derived.SizedLaws
import Derived.Carry
import Derived.ProofKit
import Derived.OpenShut
namespace Go.Proofs.YtdchbenfccofpaaGreatDoor
open Go.RowKit Db

/-- Steps that came in, below B. -/
structure ActsAt (w : World) (B : Nat) (v : Value) (xs : List ActV) : Prop where
  form : ∃ ao cap, v = .slice ao xs.length cap ∧ (xs = [] ∨ ∃ b off, ao = some ⟨b, off, none⟩ ∧ b < B ∧ ∀ (i : Nat) (x : ActV), xs[i]? = some x →
    w.cell? ⟨b, off + i * 6, none⟩ = some (.int .i64 x.kd) ∧ w.cell? ⟨b, off + i * 6 + 1, none⟩ = some (.int .i64 x.bk) ∧ w.cell? ⟨b, off + i * 6 + 2, none⟩ = some (.int .i64 x.a) ∧ w.cell? ⟨b, off + i * 6 + 3, none⟩ = some (.int .i64 x.b) ∧
    w.cell? ⟨b, off + i * 6 + 4, none⟩ = some (.slice x.ao x.ls.length x.cap) ∧ w.cell? ⟨b, off + i * 6 + 5, none⟩ = some (.string x.t))
  oks : ∀ x ∈ xs, ActOk w B x
theorem LinesAt.below {w w' : World} {B : Nat} {v : Value} {ls : List Ln} (h : LinesAt w v ls) (hb : Below B w w') (hg : ls = [] ∨ ∀ k, v.ownBlock = some k → k < B) : LinesAt w' v ls := by
  obtain ⟨ao, cap, rfl, hr⟩ := h
  refine ⟨ao, cap, rfl, ?_⟩
  rcases hg with hg | hg
  · exact .inl hg
  rcases hr with hr | ⟨b, off, rfl, hlt, hc⟩
  · exact .inl hr
  · refine .inr ⟨b, off, rfl, Nat.lt_of_lt_of_le hlt hb.size, fun i l hl => ?_⟩
    rw [hb.cell (p := ⟨b, off + i * 2, none⟩) (hg b rfl), hb.cell (p := ⟨b, off + i * 2 + 1, none⟩) (hg b rfl)]
    exact hc i l hl
theorem ActsAt.below {w w' : World} {B : Nat} {v : Value} {xs : List ActV} (h : ActsAt w B v xs) (hb : Below B w w') : ActsAt w' B v xs := by
  obtain ⟨⟨ao, cap, rfl, hr⟩, ho⟩ := h
  refine ⟨⟨ao, cap, rfl, ?_⟩, fun x hx => ⟨(ho x hx).at'.below hb (ho x hx).lo, (ho x hx).lo, (ho x hx).few, (ho x hx).txt⟩⟩
  rcases hr with hr | ⟨b, off, rfl, hlt, hc⟩
  · exact .inl hr
  · refine .inr ⟨b, off, rfl, hlt, fun i x hx => ?_⟩
    have h1 : ∀ j, w'.cell? ⟨b, j, none⟩ = w.cell? ⟨b, j, none⟩ := fun j => hb.cell (p := ⟨b, j, none⟩) hlt
    rw [h1, h1, h1, h1, h1, h1]
    exact hc i x hx

def run (s : Bk) (xs : List ActV) : Bk := xs.foldl (fun s x => if does x.kd then stp s x else s) s
theorem run_step {s : Bk} {xs : List ActV} {j : Nat} {x : ActV} (h : xs[j]? = some x) : run s (xs.take (j + 1)) = (if does x.kd then stp (run s (xs.take j)) x else run s (xs.take j)) := by
  unfold run
  rw [List.take_add_one, h]
  simp

set_option maxRecDepth 100000 in
set_option maxHeartbeats 4000000 in
theorem played_nil (w : World) :
    Calls Tryz.prog 17 #[.slice none 0 0, .int .i64 0, .int .i64 0] w fun e w' => ∃ q p c, e = .returned (.pointer (some ⟨q, 0, none⟩)) ∧ PairAt w' w.heap.size q p c bk0 ∧ Below w.heap.size w w' := by
  go_enter Tryz.func17, Tryz.ntmps17
  go_wp2_with fail
  refine (begun_any _).mono ?_
  rintro e w1 ⟨q, p, c, rfl, h1, hb1⟩
  have H1 := hide h1
  have Hb1 := hide hb1
  clear h1 hb1
  go_wp2_with fail
  go_loopg [8] 0 (fun m i wr => m = 0 ∧ i = .int .i64 0 ∧ wr = w1)
  case atStart => exact ⟨rfl, rfl, rfl⟩
  case round =>
    obtain ⟨rfl, rfl, rfl⟩ := hrel
    go_wp2_with fail
    go_ret
    exact ⟨q, p, c, rfl, unhide H1, unhide Hb1⟩

set_option maxRecDepth 100000 in
set_option maxHeartbeats 4000000 in
theorem played_any (v : Value) (xs : List ActV) (ka kb : Int) (w : World) (h : ActsAt w w.heap.size v xs) (hka : does ka = true) (hkb : does kb = true) (hlen : xs.length ≤ 9223372036854775800) :
    Calls Tryz.prog 17 #[v, .int .i64 ka, .int .i64 kb] w fun e w' => ∃ q p c, e = .returned (.pointer (some ⟨q, 0, none⟩)) ∧ PairAt w' w.heap.size q p c (run bk0 xs) ∧ Below w.heap.size w w' := by
  obtain ⟨ao, cap, rfl⟩ : ∃ ao cap, v = .slice ao xs.length cap := by obtain ⟨⟨ao, cap, rfl, _⟩, _⟩ := h; exact ⟨ao, cap, rfl⟩
  have H := hide h
  have Hka : Hid (∀ k, does k = false → (k == ka) = false) := fun k hk => by
    cases hx : (k == ka) with
    | false => rfl
    | true => rw [beq_iff_eq.1 hx, hka] at hk; cases hk
  have Hkb : Hid (∀ k, does k = false → (k == kb) = false) := fun k hk => by
    cases hx : (k == kb) with
    | false => rfl
    | true => rw [beq_iff_eq.1 hx, hkb] at hk; cases hk
  clear h hka hkb
  go_enter Tryz.func17, Tryz.ntmps17
  go_wp2_with fail
  refine (begun_any _).mono ?_
  rintro e w1 ⟨q, p, c, rfl, h1, hb1⟩
  have H1 := hide h1
  have Hb1 := hide hb1
  clear h1 hb1
  go_wp2_with fail
  go_loopg [8] xs.length (fun m i wr => ∃ j : Nat, j ≤ xs.length ∧ m = xs.length - j ∧ i = .int .i64 j ∧ Hid (PairAt wr w.heap.size q p c (run bk0 (xs.take j))) ∧ Hid (Below w.heap.size w wr))
  case atStart => exact ⟨0, by omega, rfl, rfl, unhide H1, unhide Hb1⟩
  case round =>
    obtain ⟨j, hj, rfl, rfl, HP, Hb⟩ := hrel
    by_cases hlt : j < xs.length
    · obtain ⟨x, hx⟩ : ∃ x, xs[j]? = some x := ⟨xs[j], List.getElem?_eq_getElem hlt⟩
      have hat := (unhide H).below (unhide Hb)
      have Hst := hide (run_step (s := bk0) hx)
      have Hok := hide (hat.oks x (List.mem_of_getElem? hx))
      obtain ⟨⟨ao', cap', e1, hr⟩, _⟩ := hat
      simp only [Value.slice.injEq, true_and] at e1
      obtain ⟨rfl, rfl⟩ := e1
      have hr2 := hr.resolve_left (by rintro rfl; simp at hx)
      obtain ⟨b, off, rfl, hbl, hc⟩ := hr2
      have hcx := hc j x hx
      obtain ⟨d0, d1, d2, d3, d4, d5⟩ := hcx
      have Hval : Hid (x.val = .agg #[.int .i64 x.kd, .int .i64 x.bk, .int .i64 x.a, .int .i64 x.b, .slice x.ao x.ls.length x.cap, .string x.t]) := rfl
      have hjj : (j : Int) < (xs.length : Int) := by omega
      clear hr hc hx
      cases hd : does x.kd with
      | false =>
        have ha := unhide Hka _ hd
        have hb := unhide Hkb _ hd
        have hd' := hd
        unfold does at hd'
        simp only [Bool.or_eq_false_iff] at hd'
        obtain ⟨⟨h1, h2⟩, h3⟩ := hd'
        have HP2 : Hid (PairAt wr w.heap.size q p c (run bk0 (xs.take (j + 1)))) := by
          have := unhide Hst
          rw [hd] at this
          simp only [Bool.false_eq_true, if_false] at this
          show PairAt _ _ _ _ _ _
          rw [this]
          exact unhide HP
        obtain ⟨kd, hkd⟩ : ∃ kd, x.kd = kd := ⟨_, rfl⟩
        rw [hkd] at d0 h1 h2 h3 ha hb
        have hna : (kd != ka) = true := by simp [bne, ha]
        have hnb : (kd != kb) = true := by simp [bne, hb]
        clear hd hkd Hst
        go_wp2_with fail
        go_roundg (xs.length - (j + 1))
        case measure => omega
        case rel => exact ⟨j + 1, by omega, rfl, by go_num, unhide HP2, unhide Hb⟩
      | true =>
        have Hdo := hide (do_any w.heap.size q p c (run bk0 (xs.take j)) x wr (unhide HP) (unhide Hok) hd)
        have Hst2 : Hid (run bk0 (xs.take (j + 1)) = stp (run bk0 (xs.take j)) x) := by
          show _ = _
          have := unhide Hst
          rw [hd] at this
          simpa using this
        have h3 : x.kd = 1 ∨ x.kd = 2 ∨ x.kd = 3 := by
          unfold does at hd
          simp only [Bool.or_eq_true, beq_iff_eq] at hd
          omega
        rw [unhide Hval] at Hdo
        have hsz := (unhide Hb).size
        clear hd Hst
        obtain ⟨kd, hkd⟩ : ∃ kd, x.kd = kd := ⟨_, rfl⟩
        rw [hkd] at d0 h3 Hdo
        clear hkd
        rcases h3 with rfl | rfl | rfl
        all_goals
          go_wp2_with fail
          refine (unhide Hdo).mono ?_
          rintro e w2 ⟨rfl, h1, h2⟩
          have HP2 : Hid (PairAt w2 w.heap.size q p c (run bk0 (xs.take (j + 1)))) := by show PairAt _ _ _ _ _ _; rw [unhide Hst2]; exact h1
          have Hb2 : Hid (Below w.heap.size w w2) := (unhide Hb).trans (h2.below hsz)
          clear h1 h2
          go_wp2_with fail
          go_roundg (xs.length - (j + 1))
          case measure => omega
          case rel => exact ⟨j + 1, by omega, rfl, by go_num, unhide HP2, unhide Hb2⟩
    · obtain rfl : j = xs.length := by omega
      have HP2 : Hid (PairAt wr w.heap.size q p c (run bk0 xs)) := by have := unhide HP; rw [List.take_length] at this; exact this
      go_wp2_with fail
      go_ret
      exact ⟨q, p, c, rfl, unhide HP2, unhide Hb⟩

theorem bk0_accT : accT bk0 = [] := rfl

set_option maxRecDepth 100000 in
set_option maxHeartbeats 4000000 in
theorem accounted_walk (v : Value) (xs : List ActV) (w : World) (h : ActsAt w w.heap.size v xs) (hlen : xs.length ≤ 9223372036854775800) (ht : Tab w) :
    Calls Tryz.prog 4 #[v] w fun e w' => e = .returned (.bool true) ∧ Below w.heap.size w w' := by
  obtain ⟨ao, cap, rfl⟩ : ∃ ao cap, v = .slice ao xs.length cap := by obtain ⟨⟨ao, cap, rfl, _⟩, _⟩ := h; exact ⟨ao, cap, rfl⟩
  have H := hide h
  have Ht := hide ht
  clear h ht
  go_enter Tryz.func4, Tryz.ntmps4
  go_wp2_with fail
  refine (played_nil _).mono ?_
  rintro e w1 ⟨q, p, c, rfl, h1, hb1⟩
  have H1 := hide h1
  have Hb1 := hide hb1
  have c0 := h1.blk.cell 0
  simp only [List.getElem?_toArray, List.getElem?_cons_zero] at c0
  clear h1 hb1
  go_wp2_with fail
  refine (dayAccounts_any w.heap.size p bk0 _ (unhide H1).led ((unhide Ht).below (unhide Hb1))).mono ?_
  rintro e w2 ⟨u, rfl, hu, hb2⟩
  have hu0 : u = ⟨#[]⟩ := L_inj (by rw [hu]; rfl)
  subst hu0
  have Hb2 := hide ((unhide Hb1).then hb2)
  have hsz2 := (unhide Hb2).size
  have HA : Hid (ActsAt w2 w2.heap.size (.slice ao xs.length cap) xs) := by
    have h2 := (unhide H).below (unhide Hb2)
    obtain ⟨⟨ao', cap', e1, hr⟩, ho⟩ := h2
    refine ⟨⟨ao', cap', e1, ?_⟩, fun x hx => ⟨(ho x hx).at', (ho x hx).lo.imp id (fun hh k hk => Nat.lt_of_lt_of_le (hh k hk) hsz2), (ho x hx).few, (ho x hx).txt⟩⟩
    rcases hr with hr | ⟨b, off, ha, hbl, hc⟩
    · exact .inl hr
    · exact .inr ⟨b, off, ha, Nat.lt_of_lt_of_le hbl hsz2, hc⟩
  clear hu hb2
  go_wp2_with fail
  refine (played_any _ xs 1 2 _ (unhide HA) rfl rfl hlen).mono ?_
  rintro e w3 ⟨q3, p3, c3, rfl, h3, hb3⟩
  have H3 := hide h3
  have Hb3 := hide ((unhide Hb2).then hb3)
  have d0 := h3.blk.cell 0
  simp only [List.getElem?_toArray, List.getElem?_cons_zero] at d0
  clear h3 hb3
  go_wp2_with fail
  refine (dayAccounts_any w2.heap.size p3 (run bk0 xs) _ (unhide H3).led ((unhide Ht).below (unhide Hb3))).mono ?_
  rintro e w4 ⟨u, rfl, hu, hb4⟩
  have H4 := hide ((unhide H3).kept hb4)
  have Hb4 := hide ((unhide Hb3).then hb4)
  have d1 := (unhide H4).blk.cell 1
  simp only [List.getElem?_toArray, List.getElem?_cons_zero, List.getElem?_cons_succ] at d1
  have Hu := hide hu
  clear hu hb4
  go_wp2_with fail
  refine (refAccounts_any w2.heap.size c3 (run bk0 xs) _ (unhide H4).rfd).mono ?_
  rintro e w5 ⟨u', rfl, hu', hb5⟩
  obtain rfl : u' = u := L_inj (hu'.trans (unhide Hu).symm)
  have Hb5 := hide ((unhide Hb4).then hb5)
  clear hu' hb5
  go_wp2_with fail
  go_ret
  exact ⟨rfl, unhide Hb5⟩

end Go.Proofs.YtdchbenfccofpaaGreatDoor
namespace Go.Proofs.YtdchbenfccofpaaGreatDoor
open Go.RowKit Db Go.ChangeShapes Go.WideShapes Go.ChangeAt Go.WideMaps Go.WideElems Go.Deep

theorem cInt : Tryz.prog.cellsOf 3 = 1 := by kernel_rfl
theorem cStr : Tryz.prog.cellsOf 9 = 1 := by kernel_rfl
theorem cLns : Tryz.prog.cellsOf 31 = 1 := by kernel_rfl
theorem cLine : Tryz.prog.cellsOf 89 = 2 := by kernel_rfl
theorem cAct : Tryz.prog.cellsOf 33 = 6 := by kernel_rfl
theorem bLine : Tryz.prog.bytesOf 89 = 16 := by kernel_rfl
theorem bAct : Tryz.prog.bytesOf 33 = 72 := by kernel_rfl
theorem reach_eq : reachBytes = 140737488351232 := rfl
theorem blk_lt {w : World} {a : Addr} {v : Value} (h : w.cell? a = some v) : a.block < w.heap.size := World.block_lt_of_cell? w a h
def intV : Value → Int
  | .int _ n => n
  | _ => 0

section
variable {H : Type} {enc : TypeId × Value → H} {W : World} {fuel : Nat} {x : DataW H × List MemPlace}
theorem open_lines {v : Value} (h : DataW.trod enc Tryz.prog W 0 (fun _ => true) true fuel 31 [v] = some x) :
    ∃ ao cap ls, v = .slice ao ls.length cap ∧ LinesAt W v ls ∧ (ls = [] ∨ ∀ k, v.ownBlock = some k → k < W.heap.size) ∧ (ls = [] ∨ ∃ el sp, x.1 = .slice el sp ∧ el.length = ls.length) := by
  rcases open_slice_pairs Tryz.underlying31 Tryz.underlying89 cLine rfl rfl cInt cInt h with ⟨hc, hx⟩ | ⟨a, len, cap, m, n, V0, V1, D0, D1, P0, P1, hc, _, hl, hm, hmm, hx, hcell⟩
  · simp only [List.cons.injEq, and_true] at hc
    subst hc
    exact ⟨none, 0, [], rfl, ⟨none, 0, rfl, .inl rfl⟩, .inl rfl, .inl rfl⟩
  · simp only [List.cons.injEq, and_true] at hc
    subst hc
    simp only [if_true] at hmm
    by_cases h0 : len = 0
    · subst h0
      exact ⟨some a, cap, [], rfl, ⟨some a, cap, rfl, .inl rfl⟩, .inl rfl, .inl rfl⟩
    · obtain ⟨b, off, spot⟩ := a
      have hspot : spot = none := by simpa [Addr.add] using World.cell?_spot (hcell 0 (by omega)).1
      subst hspot
      have hV : ∀ i, i < m → V0 i = .int .i64 (intV (V0 i)) ∧ V1 i = .int .i64 (intV (V1 i)) := by
        intro i hi
        obtain ⟨_, _, t0, t1⟩ := hcell i hi
        obtain ⟨k0, e0, _⟩ := DataW.trod_int Tryz.underlying3 t0
        obtain ⟨k1, e1, _⟩ := DataW.trod_int Tryz.underlying3 t1
        simp only [List.cons.injEq, and_true] at e0 e1
        rw [e0, e1]
        exact ⟨rfl, rfl⟩
      have hbl : b < W.heap.size := by
        have := blk_lt (hcell 0 (by omega)).1
        simpa [Addr.add] using this
      refine ⟨some ⟨b, off, none⟩, cap, (List.range len).map fun i => (intV (V0 i), intV (V1 i)), by simp, ⟨some ⟨b, off, none⟩, cap, by simp, .inr ⟨b, off, rfl, hbl, fun i l hl => ?_⟩⟩, .inr ?_, .inr ⟨_, _, by rw [hx], by simp⟩⟩
      · rw [List.getElem?_map] at hl
        have hi : i < len := by
          rcases Nat.lt_or_ge i len with hi | hi
          · exact hi
          · rw [List.getElem?_eq_none (by simpa using hi)] at hl; simp at hl
        rw [List.getElem?_range hi] at hl
        simp only [Option.map_some, Option.some.injEq] at hl
        subst hl
        have hc := hcell i (by omega)
        rw [Addr.add_lit, Addr.add_lit] at hc
        have hv := hV i (by omega)
        simp only
        rw [← hv.1, ← hv.2]
        exact ⟨hc.1, by rw [← Nat.add_assoc] at hc; exact hc.2.1⟩
      · intro k hk
        simp only [Value.ownBlock, Option.some.injEq] at hk
        omega

theorem weightsAll_mem {P : Program} {e : TypeId} : ∀ {l : List (DataW H)} {d : DataW H}, d ∈ l → ∀ n ∈ d.weights P e, n ∈ DataW.weightsAll P e l
  | d' :: r, d, hd, n, hn => by
    simp only [DataW.weightsAll, List.mem_append]
    rcases List.mem_cons.1 hd with rfl | h
    · exact Or.inl hn
    · exact Or.inr (weightsAll_mem h n hn)

instance : Inhabited ActV := ⟨⟨0, 0, 0, 0, none, 0, [], ⟨#[]⟩⟩⟩
set_option maxRecDepth 100000 in
/-- One step, from its six cells. -/
theorem open_act {cs : List Value} (h : DataW.trod enc Tryz.prog W 0 (fun _ => true) true fuel 33 cs = some x) (hcs : cs.length = 6) (hsz : ∀ n ∈ x.1.weights Tryz.prog 33, n ≤ reachBytes) :
    ∃ y : ActV, cs = [.int .i64 y.kd, .int .i64 y.bk, .int .i64 y.a, .int .i64 y.b, .slice y.ao y.ls.length y.cap, .string y.t] ∧ ActOk W W.heap.size y := by
  obtain ⟨xs, n, rfl, rfl, _, hxl, hf⟩ := DataW.trod_struct Tryz.underlying33 h
  match cs, hcs, xs, hxl with
  | [v0, v1, v2, v3, v4, v5], _, [y0, y1, y2, y3, y4, y5], _ =>
    have g0 := hf 0 _ rfl
    have g1 := hf 1 _ rfl
    have g2 := hf 2 _ rfl
    have g3 := hf 3 _ rfl
    have g4 := hf 4 _ rfl
    have g5 := hf 5 _ rfl
    simp [cInt, cStr, cLns] at g0 g1 g2 g3 g4 g5
    obtain ⟨k0, e0, _⟩ := DataW.trod_int Tryz.underlying3 g0
    obtain ⟨k1, e1, _⟩ := DataW.trod_int Tryz.underlying3 g1
    obtain ⟨k2, e2, _⟩ := DataW.trod_int Tryz.underlying3 g2
    obtain ⟨k3, e3, _⟩ := DataW.trod_int Tryz.underlying3 g3
    obtain ⟨s5, e5, _, hs5⟩ := DataW.trod_string Tryz.underlying9 g5
    obtain ⟨ao, cap, ls, e4, hL, hlo, hw⟩ := open_lines g4
    simp only [List.cons.injEq, and_true] at e0 e1 e2 e3 e5
    subst e0 e1 e2 e3 e4 e5
    refine ⟨⟨k0, k1, k2, k3, ao, cap, ls, s5⟩, rfl, hL, hlo, ?_, hs5⟩
    rcases hw with rfl | ⟨el, sp, hx4, hel⟩
    · simp
    · have := hsz ((el.length + sp.length) * 16) (by
        simp only [List.map_cons, List.map_nil, DataW.weights, Tryz.underlying33]
        simp [DataW.weightsEach, hx4, DataW.weights, Tryz.underlying31, bLine])
      rw [reach_eq] at this
      simp only
      omega

/-- All steps. -/
theorem open_acts {v : Value} {ts : List TypeId} {ds : List (DataW H)} (h : DataW.trod enc Tryz.prog W 0 (fun _ => true) true fuel 22 [v] = some x) (hsz : (DataW.weightsEach Tryz.prog ts ds).all (· ≤ reachBytes) = true) {j : Nat} (hj : ts[j]? = some 22) (hd : ds[j]? = some x.1) :
    ∃ ys : List ActV, ActsAt W W.heap.size v ys ∧ ys.length ≤ 9223372036854775800 := by
  rcases open_slice Tryz.underlying22 h with ⟨hc, hx⟩ | ⟨a, len, cap, m, n, D, Pl, hc, _, hl, hm, hmm, hx, hel⟩
  · simp only [List.cons.injEq, and_true] at hc
    subst hc
    exact ⟨[], ⟨⟨none, 0, rfl, .inl rfl⟩, by simp⟩, by simp⟩
  · simp only [List.cons.injEq, and_true] at hc
    subst hc
    simp only [if_true] at hmm
    subst hx
    have hbig := sized_slice hsz hj hd Tryz.underlying22
    rw [bAct, reach_eq] at hbig
    simp only [List.length_map, List.length_range] at hbig
    by_cases h0 : len = 0
    · subst h0
      exact ⟨[], ⟨⟨some a, cap, rfl, .inl rfl⟩, by simp⟩, by simp⟩
    · obtain ⟨b, off, spot⟩ := a
      have each : ∀ i, i < len → ∃ y : ActV, (∀ (f : Nat) (u : Value), [Value.int .i64 y.kd, .int .i64 y.bk, .int .i64 y.a, .int .i64 y.b, .slice y.ao y.ls.length y.cap, .string y.t][f]? = some u → W.cell? ((⟨b, off, spot⟩ : Addr).add (i * 6 + f)) = some u) ∧ ActOk W W.heap.size y := by
        intro i hi
        obtain ⟨cs', h1, h2⟩ := hel i (by omega)
        rw [cAct] at h1
        obtain ⟨_, hlen, hcell⟩ := World.cells?_some h1
        obtain ⟨y, rfl, hy⟩ := open_act h2 hlen (fun k hk => by
          refine of_decide_eq_true (List.all_eq_true.1 hsz _ (DataW.weights_mem_each hj hd _ ?_))
          simp only [DataW.weights, Tryz.underlying22, List.mem_cons, List.mem_append]
          exact Or.inr (Or.inl (weightsAll_mem (List.mem_map.2 ⟨i, List.mem_range.2 hi, rfl⟩) _ hk)))
        refine ⟨y, fun f u hu => ?_, hy⟩
        have hf : f < 6 := by have := (List.getElem?_eq_some_iff.1 hu).1; simpa using this
        have he := hcell f hf
        rw [hu, add_add] at he
        exact he
      have hspot : spot = none := by
        obtain ⟨y, hy, _⟩ := each 0 (by omega)
        have := World.cell?_spot (hy 0 _ rfl)
        simpa [Addr.add] using this
      subst hspot
      have hbl : b < W.heap.size := by
        obtain ⟨y, hy, _⟩ := each 0 (by omega)
        have := blk_lt (hy 0 _ rfl)
        simpa [Addr.add] using this
      obtain ⟨Y, hY⟩ := choose_lt each
      refine ⟨(List.range len).map Y, ⟨⟨some ⟨b, off, none⟩, cap, by simp, .inr ⟨b, off, rfl, hbl, fun i y hy => ?_⟩⟩, fun y hy => ?_⟩, by simp; omega⟩
      · rw [List.getElem?_map] at hy
        have hi : i < len := by
          rcases Nat.lt_or_ge i len with hi | hi
          · exact hi
          · rw [List.getElem?_eq_none (by simpa using hi)] at hy; simp at hy
        rw [List.getElem?_range hi] at hy
        simp only [Option.map_some, Option.some.injEq] at hy
        subst hy
        have hc := (hY i hi).1
        refine ⟨?_, ?_, ?_, ?_, ?_, ?_⟩
        · have := hc 0 _ rfl; rw [Addr.add_lit] at this; simpa [Nat.add_assoc] using this
        · have := hc 1 _ rfl; rw [Addr.add_lit] at this; simpa [Nat.add_assoc] using this
        · have := hc 2 _ rfl; rw [Addr.add_lit] at this; simpa [Nat.add_assoc] using this
        · have := hc 3 _ rfl; rw [Addr.add_lit] at this; simpa [Nat.add_assoc] using this
        · have := hc 4 _ rfl; rw [Addr.add_lit] at this; simpa [Nat.add_assoc] using this
        · have := hc 5 _ rfl; rw [Addr.add_lit] at this; simpa [Nat.add_assoc] using this
      · obtain ⟨i, hi, rfl⟩ := List.mem_map.1 hy
        exact (hY i (List.mem_range.1 hi)).2
end
end Go.Proofs.YtdchbenfccofpaaGreatDoor
namespace Go.Proofs.YtdchbenfccofpaaGreatDoor
open Go.RowKit Db

def prT (a b : Int) : List UInt8 := Lib.itoa a ++ 58 :: Lib.itoa b
def lnT (l : List Ln) : List UInt8 := l.flatMap fun x => 44 :: prT x.1 x.2
def txT (t : Tn) : List UInt8 := prT t.1 t.2.1 ++ lnT t.2.2
def jrL (s : Bk) : List (List UInt8) := s.txs.map txT
def jrT (s : Bk) : List UInt8 := jn 59 (jrL s)
theorem lnT_step {l : List Ln} {j : Nat} {x : Ln} (h : l[j]? = some x) : lnT (l.take (j + 1)) = lnT (l.take j) ++ 44 :: prT x.1 x.2 := by
  unfold lnT; rw [List.take_add_one, h]; simp
theorem prT_size {a b : Int} (h0 : -9223372036854775808 ≤ a) (h1 : a ≤ 9223372036854775807) (h2 : -9223372036854775808 ≤ b) (h3 : b ≤ 9223372036854775807) : (prT a b).length ≤ 43 := by
  have := Lib.itoa_length_le a h0 h1
  have := Lib.itoa_length_le b h2 h3
  unfold prT
  rw [List.length_append, List.length_cons]
  omega
theorem jr_step {s : Bk} {j : Nat} {t : Tn} (h : s.txs[j]? = some t) {u x : List UInt8} (hu : u = jn 59 ((jrL s).take j)) (hx : x = txT t) :
    (j = 0 → u ++ x = jn 59 ((jrL s).take (j + 1))) ∧ (0 < j → u ++ [59] ++ x = jn 59 ((jrL s).take (j + 1))) := by
  have hm : (jrL s)[j]? = some x := by unfold jrL; rw [List.getElem?_map, h, hx]; rfl
  constructor
  · rintro rfl
    rw [jn_one hm, hu]; rfl
  · intro hj
    rw [jn_more hj hm, hu]; simp
/-- What is known of a transaction's numbers. -/
structure TxOk (t : Tn) : Prop where
  id : 0 ≤ t.1 ∧ t.1 ≤ 9999
  day : 0 ≤ t.2.1 ∧ t.2.1 ≤ 999
  few : t.2.2.length ≤ 4
  lns : ∀ l ∈ t.2.2, 0 < l.1 ∧ l.1 < 16 ∧ -1000000000000 ≤ l.2 ∧ l.2 ≤ 1000000000000
theorem good_ok {s : Bk} (h : BkGood s) {t : Tn} (ht : t ∈ s.txs) : TxOk t := by
  have := h.tx t ht
  exact ⟨⟨this.1, this.2.1⟩, ⟨this.2.2.1, this.2.2.2.1⟩, this.2.2.2.2.1, this.2.2.2.2.2⟩

set_option maxRecDepth 100000 in
set_option maxHeartbeats 1000000 in
theorem showPair_any (a b : Int) (w : World) (h0 : -9223372036854775808 ≤ a) (h1 : a ≤ 9223372036854775807) (h2 : -9223372036854775808 ≤ b) (h3 : b ≤ 9223372036854775807) (ht : Tab w) :
    Calls Tryz.prog 125 #[.int .i64 a, .int .i64 b] w fun e w' => ∃ u : ByteArray, e = .returned (.string u) ∧ L u = prT a b ∧ Below w.heap.size w w' := by
  have Ht := hide ht
  clear ht
  go_enter Tryz.func125, Tryz.ntmps125
  go_wp2_with fail
  refine (itoa_any a _ h0 h1 (unhide Ht)).mono ?_
  rintro e w1 ⟨u1, rfl, hu1, hb1⟩
  have hs1 := itoa_size h0 h1 hu1
  have Hu1 := hide hu1
  have Hb1 := hide hb1
  clear hu1 hb1
  go_wp2_with fail
  refine (itoa_any b _ h2 h3 ((unhide Ht).below (unhide Hb1))).mono ?_
  rintro e w2 ⟨u2, rfl, hu2, hb2⟩
  have hs2 := itoa_size h2 h3 hu2
  have Hu2 := hide hu2
  have Hb2 := hide ((unhide Hb1).then hb2)
  clear hu2 hb2
  go_wp2_with fail
  go_ret
  refine ⟨_, rfl, ?_, unhide Hb2⟩
  rw [L_append, L_append, unhide Hu1, unhide Hu2]
  show Lib.itoa a ++ [58] ++ Lib.itoa b = _
  unfold prT
  simp

set_option maxRecDepth 100000 in
set_option maxHeartbeats 2000000 in
theorem showTx_any (ti td : Int) (ls : List Ln) (v : Value) (w : World) (hok : TxOk (ti, td, ls)) (hl : LinesAt w v ls) (ht : Tab w) :
    Calls Tryz.prog 88 #[.agg #[.int .i64 ti, .int .i64 td, v]] w fun e w' => ∃ u : ByteArray, e = .returned (.string u) ∧ L u = txT (ti, td, ls) ∧ u.size ≤ 219 ∧ Below w.heap.size w w' := by
  obtain ⟨ao, cap, rfl⟩ := hl.form
  obtain ⟨⟨i0, i1⟩, ⟨d0, d1⟩, h4, hln⟩ := hok
  simp only at i0 i1 d0 d1 h4 hln
  have Ht := hide ht
  have Hl := hide hl
  have Hln := hide hln
  obtain ⟨W, hW⟩ : ∃ W, w.alloc (.cells #[.int .i64 ti, .int .i64 td, .slice ao ls.length cap] 148) = W := ⟨_, rfl⟩
  have HB : Hid (Blk W w.heap.size #[.int .i64 ti, .int .i64 td, .slice ao ls.length cap] 148) := by rw [← hW]; exact Blk.new _ _ _
  have Hw : Hid (Below w.heap.size w W) := by rw [← hW]; exact (Below.refl _ _).alloc (Nat.le_refl _) _
  have x0 := (unhide HB).cell 0
  have x1 := (unhide HB).cell 1
  simp only [List.getElem?_toArray, List.getElem?_cons_zero, List.getElem?_cons_succ] at x0 x1
  clear ht hl hln
  go_enter Tryz.func88, Tryz.ntmps88
  go_wp2_with fail
  try rw [hW]
  refine (showPair_any ti td W (by omega) (by omega) (by omega) (by omega) ((unhide Ht).below (unhide Hw))).mono ?_
  rintro e w1 ⟨u0, rfl, hu0, hb1⟩
  have hz0 : u0.size ≤ 43 := by rw [size_L, hu0]; exact prT_size (by omega) (by omega) (by omega) (by omega)
  have HB1 := hide ((unhide HB).kept hb1)
  have x2 := (unhide HB1).cell 2
  simp only [List.getElem?_toArray, List.getElem?_cons_zero, List.getElem?_cons_succ] at x2
  have Hb1 := hide ((unhide Hw).then hb1)
  have Hu0 := hide hu0
  clear hu0 hb1 hW
  go_wp2_with fail
  go_loopg [3, 14] ls.length (fun m vu i wr => ∃ j : Nat, ∃ u : ByteArray, j ≤ ls.length ∧ m = ls.length - j ∧ i = .int .i64 j ∧ vu = .string u ∧ u.size ≤ 43 + 44 * j ∧ Hid (L u = prT ti td ++ lnT (ls.take j)) ∧ Hid (Below w.heap.size w wr))
  case atStart => exact ⟨0, u0, by omega, rfl, rfl, rfl, by omega, by show _ = _; rw [unhide Hu0]; simp [lnT], unhide Hb1⟩
  case round =>
    obtain ⟨j, u, hj, rfl, rfl, rfl, hus, Hu, Hb⟩ := hrel
    have hsz := (unhide Hb).size
    by_cases hlt : j < ls.length
    · obtain ⟨⟨la, lm⟩, hlj⟩ : ∃ l, ls[j]? = some l := ⟨ls[j], List.getElem?_eq_getElem hlt⟩
      obtain ⟨_, b, off, rfl, hbl, d1', d2'⟩ := ((unhide Hl).kept (unhide Hb)).line hlj
      have hb := unhide Hln _ (List.mem_of_getElem? hlj)
      have Hst := hide (lnT_step hlj)
      simp only at d1' d2' hb Hst
      clear hlj
      go_wp2_with fail
      refine (showPair_any la lm _ (by omega) (by omega) (by omega) (by omega) ((unhide Ht).below (by exact (unhide Hb).alloc hsz _))).mono ?_
      rintro e w3 ⟨y, rfl, hy, hb3⟩
      have hyz : y.size ≤ 43 := by rw [size_L, hy]; exact prT_size (by omega) (by omega) (by omega) (by omega)
      have Hb3 : Hid (Below w.heap.size w w3) := ((unhide Hb).alloc hsz _).then' (by simp; omega) hb3
      have Hy := hide hy
      clear hy hb3
      go_wp2_with fail
      go_roundg (ls.length - (j + 1))
      case measure => omega
      case rel => exact ⟨j + 1, u ++ (⟨#[44]⟩ ++ y), by omega, rfl, by go_num, rfl, by rw [ByteArray.size_append, ByteArray.size_append]; show u.size + (1 + y.size) ≤ _; omega, by show _ = _; rw [L_append, L_append, unhide Hu, unhide Hy, unhide Hst, List.append_assoc]; rfl, unhide Hb3⟩
    · obtain rfl : j = ls.length := by omega
      go_wp2_with fail
      go_ret
      refine ⟨u, rfl, ?_, by omega, unhide Hb⟩
      rw [unhide Hu, List.take_length]; rfl

set_option maxRecDepth 100000 in
set_option maxHeartbeats 2000000 in
theorem ledJournal_any (B p : Nat) (s : Bk) (w : World) (h : Led w B p s) (ht : Tab w) :
    Calls Tryz.prog 50 #[.pointer (some ⟨p, 0, none⟩)] w fun e w' => ∃ u : ByteArray, e = .returned (.string u) ∧ L u = jrT s ∧ Below w.heap.size w w' := by
  obtain ⟨va, vt, tv, dk, h⟩ := h
  obtain ⟨ao, cap, rfl⟩ := ownsRow_form h.txs.own
  have c1 := h.blk.cell 1
  simp only [List.getElem?_toArray, List.getElem?_cons_zero, List.getElem?_cons_succ] at c1
  have hlen : tv.length ≤ 64 := by have := h.good.posts; rw [← h.jr, List.length_map] at this; exact this
  have Hjr := hide h.jr
  have H := hide h
  have Ht := hide ht
  clear h ht
  go_enter Tryz.func50, Tryz.ntmps50
  go_wp2_with fail
  go_loopg [3, 11] tv.length (fun m vu i wr => ∃ j : Nat, ∃ u : ByteArray, j ≤ tv.length ∧ m = tv.length - j ∧ i = .int .i64 j ∧ vu = .string u ∧ u.size ≤ 220 * j ∧ Hid (L u = jn 59 ((jrL s).take j)) ∧ Hid (Below w.heap.size w wr))
  case atStart => exact ⟨0, ⟨#[]⟩, by omega, rfl, rfl, rfl, Nat.le_refl 0, rfl, Below.refl _ _⟩
  case round =>
    obtain ⟨j, u, hj, rfl, rfl, rfl, hus, Hu, Hb⟩ := hrel
    have hsz := (unhide Hb).size
    by_cases hlt : j < tv.length
    · obtain ⟨⟨t, v⟩, htj⟩ : ∃ t, tv[j]? = some t := ⟨tv[j], List.getElem?_eq_getElem hlt⟩
      obtain ⟨g, _, e1, hg, hg'⟩ := ownsRow_some (unhide H).txs.own (by omega)
      simp only [Value.slice.injEq, true_and] at e1
      obtain ⟨rfl, rfl⟩ := e1
      have h3 := three_get (fun x : Tn × Value => Value.int .i64 x.1.1) (fun x => .int .i64 x.1.2.1) (fun x => x.2) tv j (t, v) htj
      have hro := ownsRow_below (unhide H).txs.own (unhide Hb)
      have d0 := ownsRow_cell hro (j := j * 3) h3.1
      have d1 := ownsRow_cell hro (j := j * 3 + 1) h3.2.1
      have d2 := ownsRow_cell hro (j := j * 3 + 2) h3.2.2
      have hln := ((unhide H).kept (unhide Hb)).txs.lns _ (List.mem_of_getElem? htj)
      have hst : s.txs[j]? = some t := by rw [← unhide Hjr, List.getElem?_map, htj]; rfl
      have Hok := hide (good_ok (unhide H).good (List.mem_of_getElem? hst))
      have Hst := hide (fun x => jr_step (x := x) hst (unhide Hu))
      obtain ⟨ti, td, ls⟩ := t
      simp only at d0 d1 d2 hln
      obtain ⟨aol, capl, rfl⟩ := ownsRow_form hln
      have Hln := hide hln
      clear h3 hro hln hst htj
      by_cases hj0 : j = 0
      · subst hj0
        go_wp2_with fail
        refine (showTx_any ti td ls _ _ (unhide Hok) (by exact (LinesAt.of_own (unhide Hln)).kept ((Below.refl _ _).alloc (Nat.le_refl _) _)) ((unhide Ht).below (by exact (unhide Hb).alloc hsz _))).mono ?_
        rintro e w3 ⟨y, rfl, hy, hyz, hb3⟩
        have Hb3 : Hid (Below w.heap.size w w3) := ((unhide Hb).alloc hsz _).then' (by simp; omega) hb3
        have Hn := hide ((unhide Hst _ hy).1 (by simp))
        clear hy hb3
        go_wp2_with fail
        go_roundg (tv.length - (0 + 1))
        case measure => omega
        case rel => exact ⟨0 + 1, u ++ y, by omega, rfl, by go_num, rfl, by rw [ByteArray.size_append]; omega, by show _ = _; rw [L_append]; exact unhide Hn, unhide Hb3⟩
      · have hdd : decide ((0 : Int) < (j : Int)) = true := by simp; omega
        go_wp2_with fail
        refine (showTx_any ti td ls _ _ (unhide Hok) (by exact (LinesAt.of_own (unhide Hln)).kept ((Below.refl _ _).alloc (Nat.le_refl _) _)) ((unhide Ht).below (by exact (unhide Hb).alloc hsz _))).mono ?_
        rintro e w3 ⟨y, rfl, hy, hyz, hb3⟩
        have Hb3 : Hid (Below w.heap.size w w3) := ((unhide Hb).alloc hsz _).then' (by simp; omega) hb3
        have Hn := hide ((unhide Hst _ hy).2 (by omega))
        clear hy hb3
        go_wp2_with fail
        go_roundg (tv.length - (j + 1))
        case measure => omega
        case rel => exact ⟨j + 1, u ++ ⟨#[59]⟩ ++ y, by omega, rfl, by go_num, rfl, by rw [ByteArray.size_append, ByteArray.size_append]; show u.size + 1 + y.size ≤ _; omega, by show _ = _; rw [L_append, L_append]; exact unhide Hn, unhide Hb3⟩
    · obtain rfl : j = tv.length := by omega
      go_wp2_with fail
      go_ret
      refine ⟨u, rfl, ?_, unhide Hb⟩
      rw [unhide Hu, List.take_of_length_le (by unfold jrL; rw [List.length_map, ← unhide Hjr, List.length_map]; exact Nat.le_refl _)]; rfl

set_option maxHeartbeats 1000000 in
theorem dayJournal_any (B p : Nat) (s : Bk) (w : World) (h : Led w B p s) (ht : Tab w) :
    Calls Tryz.prog 20 #[.pointer (some ⟨p, 0, none⟩)] w fun e w' => ∃ u : ByteArray, e = .returned (.string u) ∧ L u = jrT s ∧ Below w.heap.size w w' := by
  have Hc := hide (ledJournal_any B p s w h ht)
  clear h ht
  go_enter Tryz.func20, Tryz.ntmps20
  go_wp2_with fail
  refine (unhide Hc).mono ?_
  rintro e w1 ⟨u, rfl, hu, hb⟩
  have Hu := hide hu
  have Hb := hide hb
  clear hu hb
  go_wp2_with fail
  go_ret
  exact ⟨u, rfl, unhide Hu, unhide Hb⟩

end Go.Proofs.YtdchbenfccofpaaGreatDoor
namespace Go.Proofs.YtdchbenfccofpaaGreatDoor
open Go.RowKit Db

set_option maxRecDepth 100000 in
set_option maxHeartbeats 4000000 in
theorem refJournal_any (B p : Nat) (s : Bk) (w : World) (h : Rfd w B p s) :
    Calls Tryz.prog 21 #[.pointer (some ⟨p, 0, none⟩)] w fun e w' => ∃ u : ByteArray, e = .returned (.string u) ∧ L u = jrT s ∧ Below w.heap.size w w' := by
  obtain ⟨vp, vc, vt, tv, h⟩ := h
  obtain ⟨ao, cap, rfl⟩ := ownsRow_form h.txs.own
  have hlen : tv.length ≤ 64 := by have := h.good.posts; rw [← h.jr, List.length_map] at this; exact this
  have Hjr := hide h.jr
  have H := hide h
  clear h
  go_enter Tryz.func21, Tryz.ntmps21
  go_wp2_with fail
  go_loopg [3, 4] tv.length (fun m vu i wr => ∃ j : Nat, ∃ u : ByteArray, j ≤ tv.length ∧ m = tv.length - j ∧ i = .int .i64 j ∧ vu = .string u ∧ u.size ≤ 230 * j ∧ Hid (L u = jn 59 ((jrL s).take j)) ∧ Hid (Below w.heap.size w wr))
  case atStart => exact ⟨0, ⟨#[]⟩, by omega, rfl, rfl, rfl, Nat.le_refl 0, rfl, Below.refl _ _⟩
  case round =>
    obtain ⟨j, u, hj, rfl, rfl, rfl, hus, Hu, Hb⟩ := hrel
    have hsz := (unhide Hb).size
    have H1 := hide ((unhide H).kept (unhide Hb))
    have c2 := (unhide H1).blk.cell 2
    simp only [List.getElem?_toArray, List.getElem?_cons_zero, List.getElem?_cons_succ] at c2
    by_cases hlt : j < tv.length
    · obtain ⟨⟨t, v⟩, htj⟩ : ∃ t, tv[j]? = some t := ⟨tv[j], List.getElem?_eq_getElem hlt⟩
      obtain ⟨g, _, e1, hg, hg'⟩ := ownsRow_some (unhide H1).txs.own (by omega)
      simp only [Value.slice.injEq, true_and] at e1
      obtain ⟨rfl, rfl⟩ := e1
      have h3 := three_get (fun x : Tn × Value => Value.int .i64 x.1.1) (fun x => .int .i64 x.1.2.1) (fun x => x.2) tv j (t, v) htj
      have d0 := ownsRow_cell (unhide H1).txs.own (j := j * 3) h3.1
      have d1 := ownsRow_cell (unhide H1).txs.own (j := j * 3 + 1) h3.2.1
      have d2 := ownsRow_cell (unhide H1).txs.own (j := j * 3 + 2) h3.2.2
      have hln := (unhide H1).txs.lns _ (List.mem_of_getElem? htj)
      have hst : s.txs[j]? = some t := by rw [← unhide Hjr, List.getElem?_map, htj]; rfl
      have hok := good_ok (unhide H).good (List.mem_of_getElem? hst)
      have Hst := hide (fun x => jr_step (x := x) hst (unhide Hu))
      obtain ⟨ti, td, ls⟩ := t
      obtain ⟨⟨i0, i1⟩, ⟨dd0, dd1⟩, h4, hlb⟩ := hok
      simp only at d0 d1 d2 hln i0 i1 dd0 dd1 h4 hlb
      obtain ⟨aol, capl, rfl⟩ := ownsRow_form hln
      have Hlb := hide hlb
      obtain ⟨W, hW⟩ : ∃ W, wr.alloc (.cells #[.int .i64 ti, .int .i64 td, .slice aol ls.length capl] 87) = W := ⟨_, rfl⟩
      obtain ⟨bx, hbx⟩ : ∃ bx, wr.heap.size = bx := ⟨_, rfl⟩
      have HB : Hid (Blk W bx #[.int .i64 ti, .int .i64 td, .slice aol ls.length capl] 87) := by rw [← hW, ← hbx]; exact Blk.new _ _ _
      have Hw : Hid (Below w.heap.size w W) := by rw [← hW]; exact (unhide Hb).alloc hsz _
      have HlW : Hid (LinesAt W (.slice aol ls.length capl) ls) := by rw [← hW]; exact (LinesAt.of_own hln).kept ((Below.refl _ _).alloc (Nat.le_refl _) _)
      have hWs : W.heap.size = bx + 1 := by rw [← hW, ← hbx]; simp
      have x0 := (unhide HB).cell 0
      simp only [List.getElem?_toArray, List.getElem?_cons_zero] at x0
      -- the text ahead: a ; or nothing
      obtain ⟨u1, hu1, hz1, Hst1⟩ : ∃ u1 : ByteArray, (u1 = if j = 0 then u else u ++ ⟨#[59]⟩) ∧ u1.size ≤ 230 * j + 1 ∧ Hid (∀ x, x = txT (ti, td, ls) → L u1 ++ x = jn 59 ((jrL s).take (j + 1))) := by
        by_cases hj0 : j = 0
        · exact ⟨u, by rw [if_pos hj0], by omega, fun x hx => (unhide Hst x hx).1 hj0⟩
        · refine ⟨u ++ ⟨#[59]⟩, by rw [if_neg hj0], by rw [ByteArray.size_append]; show u.size + 1 ≤ _; omega, fun x hx => ?_⟩
          rw [L_append]
          exact (unhide Hst x hx).2 (by omega)
      clear h3 hln hst htj hlb Hst
      have hcase : (decide (0 < j) = true ∧ u1 = u ++ ⟨#[59]⟩) ∨ (decide (0 < j) = false ∧ u1 = u) := by
        by_cases hj0 : j = 0
        · rw [if_pos hj0] at hu1; exact .inr ⟨by simp; omega, hu1⟩
        · rw [if_neg hj0] at hu1; exact .inl ⟨by simp; omega, hu1⟩
      clear hu1
      rcases hcase with ⟨hbb0, hu1⟩ | ⟨hbb0, hu1⟩
      all_goals
        go_wp2_with fail
        try rw [hW]
        try rw [← hu1]
        clear hu1
        refine (number10_any ti W (by omega) (by omega)).mono ?_
        rintro e w2 ⟨a, rfl, ha, hb2⟩
        have haz : a.size ≤ 21 := itoa_size (by omega) (by omega) ha
        have Hb2 := hide hb2
        have x1 := ((unhide HB).kept hb2).cell 1
        simp only [List.getElem?_toArray, List.getElem?_cons_zero, List.getElem?_cons_succ] at x1
        have Ha := hide ha
        clear ha hb2 x0
        go_wp2_with fail
        refine (number10_any td _ (by omega) (by omega)).mono ?_
        rintro e w3 ⟨b, rfl, hb, hb3⟩
        have hbz : b.size ≤ 21 := itoa_size (by omega) (by omega) hb
        have Hb3 := hide ((unhide Hb2).then hb3)
        have Hbb := hide hb
        clear hb hb3 x1
        go_wp2_with fail
        go_loopg [3, 8] ls.length (fun m vu i wx => ∃ q : Nat, ∃ y : ByteArray, q ≤ ls.length ∧ m = ls.length - q ∧ i = .int .i64 q ∧ vu = .string y ∧ y.size ≤ 230 * j + 44 + 44 * q ∧ Hid (L y = L u1 ++ prT ti td ++ lnT (ls.take q)) ∧ Hid (Below W.heap.size W wx))
        case atStart => exact ⟨0, u1 ++ a ++ ⟨#[58]⟩ ++ b, by omega, rfl, rfl, rfl, by rw [ByteArray.size_append, ByteArray.size_append, ByteArray.size_append]; show u1.size + a.size + 1 + b.size ≤ _; omega, by show _ = _; rw [L_append, L_append, L_append, unhide Ha, unhide Hbb]; simp [lnT, prT, L], unhide Hb3⟩
        case round =>
          obtain ⟨q, y, hq, rfl, rfl, rfl, hyz, Hy, Hb4⟩ := hrel
          have hsz4 := (unhide Hb4).size
          have HB4 := hide ((unhide HB).kept (unhide Hb4))
          have x2 := (unhide HB4).cell 2
          simp only [List.getElem?_toArray, List.getElem?_cons_zero, List.getElem?_cons_succ] at x2
          by_cases hlt2 : q < ls.length
          · obtain ⟨⟨la, lm⟩, hlj⟩ : ∃ l, ls[q]? = some l := ⟨ls[q], List.getElem?_eq_getElem hlt2⟩
            obtain ⟨_, bl, off, rfl, hbl, f1, f2⟩ := ((unhide HlW).kept (unhide Hb4)).line hlj
            have hbb := unhide Hlb _ (List.mem_of_getElem? hlj)
            have Hs2 := hide (lnT_step hlj)
            have Hf2 := hide (fun (wx : World) (hb : Below W.heap.size W wx) => (((unhide HlW).kept hb).line hlj))
            simp only at f1 f2 hbb Hs2
            clear hlj
            go_wp2_with fail
            refine (number10_any la _ (by omega) (by omega)).mono ?_
            rintro e w5 ⟨c, rfl, hc, hb5⟩
            have hcz : c.size ≤ 21 := itoa_size (by omega) (by omega) hc
            have Hb5 := hide ((unhide Hb4).then hb5)
            have x5 := ((unhide HB).kept (unhide Hb5)).cell 2
            simp only [List.getElem?_toArray, List.getElem?_cons_zero, List.getElem?_cons_succ] at x5
            obtain ⟨_, b5, off5, e5, _, _, f5⟩ := unhide Hf2 _ (unhide Hb5)
            simp only [Option.some.injEq, Addr.mk.injEq, and_true] at e5
            obtain ⟨rfl, rfl⟩ := e5
            have Hc := hide hc
            clear hc hb5 x2 f1 f2
            go_wp2_with fail
            refine (number10_any lm _ (by omega) (by omega)).mono ?_
            rintro e w6 ⟨d, rfl, hd, hb6⟩
            have hdz : d.size ≤ 21 := itoa_size (by omega) (by omega) hd
            have Hb6 := hide ((unhide Hb5).then hb6)
            have Hd := hide hd
            clear hd hb6 x5 f5
            go_wp2_with fail
            go_roundg (ls.length - (q + 1))
            case measure => omega
            case rel => exact ⟨q + 1, y ++ ⟨#[44]⟩ ++ c ++ ⟨#[58]⟩ ++ d, by omega, rfl, by go_num, rfl, by rw [ByteArray.size_append, ByteArray.size_append, ByteArray.size_append, ByteArray.size_append]; show y.size + 1 + c.size + 1 + d.size ≤ _; omega, by show _ = _; rw [L_append, L_append, L_append, L_append, unhide Hy, unhide Hc, unhide Hd, unhide Hs2]; simp [prT, L], unhide Hb6⟩
          · obtain rfl : q = ls.length := by omega
            have Hfin : Hid (L y = jn 59 ((jrL s).take (j + 1))) := by
              show _ = _
              rw [unhide Hy, List.take_length, List.append_assoc]
              exact unhide Hst1 _ rfl
            go_wp2_with fail
            go_roundg (tv.length - (j + 1))
            case measure => omega
            case rel => exact ⟨j + 1, y, by omega, rfl, by go_num, rfl, by omega, unhide Hfin, (unhide Hw).then' (by omega) (unhide Hb4)⟩
    · obtain rfl : j = tv.length := by omega
      go_wp2_with fail
      go_ret
      refine ⟨u, rfl, ?_, unhide Hb⟩
      rw [unhide Hu, List.take_of_length_le (by unfold jrL; rw [List.length_map, ← unhide Hjr, List.length_map]; exact Nat.le_refl _)]; rfl

set_option maxRecDepth 100000 in
set_option maxHeartbeats 4000000 in
theorem posted_walk (v : Value) (xs : List ActV) (w : World) (h : ActsAt w w.heap.size v xs) (hlen : xs.length ≤ 9223372036854775800) (ht : Tab w) :
    Calls Tryz.prog 5 #[v] w fun e w' => e = .returned (.bool true) ∧ Below w.heap.size w w' := by
  obtain ⟨ao, cap, rfl⟩ : ∃ ao cap, v = .slice ao xs.length cap := by obtain ⟨⟨ao, cap, rfl, _⟩, _⟩ := h; exact ⟨ao, cap, rfl⟩
  have H := hide h
  have Ht := hide ht
  clear h ht
  go_enter Tryz.func5, Tryz.ntmps5
  go_wp2_with fail
  refine (played_nil _).mono ?_
  rintro e w1 ⟨q, p, c, rfl, h1, hb1⟩
  have H1 := hide h1
  have Hb1 := hide hb1
  have c0 := h1.blk.cell 0
  simp only [List.getElem?_toArray, List.getElem?_cons_zero] at c0
  clear h1 hb1
  go_wp2_with fail
  refine (dayJournal_any w.heap.size p bk0 _ (unhide H1).led ((unhide Ht).below (unhide Hb1))).mono ?_
  rintro e w2 ⟨u, rfl, hu, hb2⟩
  have hu0 : u = ⟨#[]⟩ := L_inj (by rw [hu]; rfl)
  subst hu0
  have Hb2 := hide ((unhide Hb1).then hb2)
  have hsz2 := (unhide Hb2).size
  have HA : Hid (ActsAt w2 w2.heap.size (.slice ao xs.length cap) xs) := by
    have h2 := (unhide H).below (unhide Hb2)
    obtain ⟨⟨ao', cap', e1, hr⟩, ho⟩ := h2
    refine ⟨⟨ao', cap', e1, ?_⟩, fun x hx => ⟨(ho x hx).at', (ho x hx).lo.imp id (fun hh k hk => Nat.lt_of_lt_of_le (hh k hk) hsz2), (ho x hx).few, (ho x hx).txt⟩⟩
    rcases hr with hr | ⟨b, off, ha, hbl, hc⟩
    · exact .inl hr
    · exact .inr ⟨b, off, ha, Nat.lt_of_lt_of_le hbl hsz2, hc⟩
  clear hu hb2
  go_wp2_with fail
  refine (played_any _ xs 3 3 _ (unhide HA) rfl rfl hlen).mono ?_
  rintro e w3 ⟨q3, p3, c3, rfl, h3, hb3⟩
  have H3 := hide h3
  have Hb3 := hide ((unhide Hb2).then hb3)
  have d0 := h3.blk.cell 0
  simp only [List.getElem?_toArray, List.getElem?_cons_zero] at d0
  clear h3 hb3
  go_wp2_with fail
  refine (dayJournal_any w2.heap.size p3 (run bk0 xs) _ (unhide H3).led ((unhide Ht).below (unhide Hb3))).mono ?_
  rintro e w4 ⟨u, rfl, hu, hb4⟩
  have H4 := hide ((unhide H3).kept hb4)
  have Hb4 := hide ((unhide Hb3).then hb4)
  have d1 := (unhide H4).blk.cell 1
  simp only [List.getElem?_toArray, List.getElem?_cons_zero, List.getElem?_cons_succ] at d1
  have Hu := hide hu
  clear hu hb4
  go_wp2_with fail
  refine (refJournal_any w2.heap.size c3 (run bk0 xs) _ (unhide H4).rfd).mono ?_
  rintro e w5 ⟨u', rfl, hu', hb5⟩
  obtain rfl : u' = u := L_inj (hu'.trans (unhide Hu).symm)
  have Hb5 := hide ((unhide Hb4).then hb5)
  clear hu' hb5
  go_wp2_with fail
  go_ret
  exact ⟨rfl, unhide Hb5⟩

end Go.Proofs.YtdchbenfccofpaaGreatDoor
