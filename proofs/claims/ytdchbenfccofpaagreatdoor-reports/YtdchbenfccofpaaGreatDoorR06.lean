/- The law's pair of books: played; Accounted. Lines that came in: from the reading of the argument to the list that a walk wants. Steps that came in: from the reading of the argument to the lists that the walk wants. Reports: the document's within and taken. Walks of the document's answer: value, bare, split. Walks of the document's answer: binary, final, cut. Walks of the document's answer: the spots, case by case (laid by genC.py). Walks of the document's answer: reaches, joined, kind. -/
import Derived.Test.YtdchbenfccofpaaGreatDoorR05
import Derived.Test.YtdchbenfccofpaaGreatDoorR03
import Derived.Deep.SlicePairs
import Derived.SizedLaws
import Derived.Carry
import Derived.ProofKit
import Derived.OpenShut
import Derived.Test.YtdchbenfccofpaaGreatDoorR01
import Derived.Deep.LoopGhost
import Derived.Deep.Draws
import Derived.Test.YtdchbenfccofpaaGreatDoorR02
namespace Go.Proofs.YtdchbenfccofpaaGreatDoor
open Go.RowKit Db

/-- Steps that came in, below B. -/
structure ActsAt (w : World) (B : Nat) (v : Value) (xs : List ActV) : Prop where
  form : ∃ ao cap, v = .slice ao xs.length cap ∧ (xs = [] ∨ ∃ b off, ao = some ⟨b, off, none⟩ ∧ b < B ∧ ∀ (i : Nat) (x : ActV), xs[i]? = some x →
    w.cell? ⟨b, off + i * 6, none⟩ = some (.int .i64 x.kd) ∧ w.cell? ⟨b, off + i * 6 + 1, none⟩ = some (.int .i64 x.bk) ∧ w.cell? ⟨b, off + i * 6 + 2, none⟩ = some (.int .i64 x.a) ∧ w.cell? ⟨b, off + i * 6 + 3, none⟩ = some (.int .i64 x.b) ∧
    w.cell? ⟨b, off + i * 6 + 4, none⟩ = some (.slice x.ao x.ls.length x.cap) ∧ w.cell? ⟨b, off + i * 6 + 5, none⟩ = some (.string x.t))
  oks : ∀ x ∈ xs, ActOk w B x
theorem LinesAt.below {w w' : World} {B : Nat} {v : Value} {ls : List Ln} (h : LinesAt w v ls) (hb : Below B w w') (hg : ls = [] ∨ ∀ k, v.ownBlock = some k → k < B) : LinesAt w' v ls := by
  obtain ⟨ao, cap, rfl, hr⟩ := h
  refine ⟨ao, cap, rfl, ?_⟩
  rcases hg with hg | hg
  · exact .inl hg
  rcases hr with hr | ⟨b, off, rfl, hlt, hc⟩
  · exact .inl hr
  · refine .inr ⟨b, off, rfl, Nat.lt_of_lt_of_le hlt hb.size, fun i l hl => ?_⟩
    rw [hb.cell (p := ⟨b, off + i * 2, none⟩) (hg b rfl), hb.cell (p := ⟨b, off + i * 2 + 1, none⟩) (hg b rfl)]
    exact hc i l hl
theorem ActsAt.below {w w' : World} {B : Nat} {v : Value} {xs : List ActV} (h : ActsAt w B v xs) (hb : Below B w w') : ActsAt w' B v xs := by
  obtain ⟨⟨ao, cap, rfl, hr⟩, ho⟩ := h
  refine ⟨⟨ao, cap, rfl, ?_⟩, fun x hx => ⟨(ho x hx).at'.below hb (ho x hx).lo, (ho x hx).lo, (ho x hx).few, (ho x hx).txt⟩⟩
  rcases hr with hr | ⟨b, off, rfl, hlt, hc⟩
  · exact .inl hr
  · refine .inr ⟨b, off, rfl, hlt, fun i x hx => ?_⟩
    have h1 : ∀ j, w'.cell? ⟨b, j, none⟩ = w.cell? ⟨b, j, none⟩ := fun j => hb.cell (p := ⟨b, j, none⟩) hlt
    rw [h1, h1, h1, h1, h1, h1]
    exact hc i x hx

def run (s : Bk) (xs : List ActV) : Bk := xs.foldl (fun s x => if does x.kd then stp s x else s) s
theorem run_step {s : Bk} {xs : List ActV} {j : Nat} {x : ActV} (h : xs[j]? = some x) : run s (xs.take (j + 1)) = (if does x.kd then stp (run s (xs.take j)) x else run s (xs.take j)) := by
  unfold run
  rw [List.take_add_one, h]
  simp

set_option maxRecDepth 100000 in
set_option maxHeartbeats 4000000 in
theorem played_nil (w : World) :
    Calls Tryz.prog 17 #[.slice none 0 0, .int .i64 0, .int .i64 0] w fun e w' => ∃ q p c, e = .returned (.pointer (some ⟨q, 0, none⟩)) ∧ PairAt w' w.heap.size q p c bk0 ∧ Below w.heap.size w w' := by
  go_enter Tryz.func17, Tryz.ntmps17
  go_wp2_with fail
  refine (begun_any _).mono ?_
  rintro e w1 ⟨q, p, c, rfl, h1, hb1⟩
  have H1 := hide h1
  have Hb1 := hide hb1
  clear h1 hb1
  go_wp2_with fail
  go_loopg [8] 0 (fun m i wr => m = 0 ∧ i = .int .i64 0 ∧ wr = w1)
  case atStart => exact ⟨rfl, rfl, rfl⟩
  case round =>
    obtain ⟨rfl, rfl, rfl⟩ := hrel
    go_wp2_with fail
    go_ret
    exact ⟨q, p, c, rfl, unhide H1, unhide Hb1⟩

set_option maxRecDepth 100000 in
set_option maxHeartbeats 4000000 in
theorem played_any (v : Value) (xs : List ActV) (ka kb : Int) (w : World) (h : ActsAt w w.heap.size v xs) (hka : does ka = true) (hkb : does kb = true) (hlen : xs.length ≤ 9223372036854775800) :
    Calls Tryz.prog 17 #[v, .int .i64 ka, .int .i64 kb] w fun e w' => ∃ q p c, e = .returned (.pointer (some ⟨q, 0, none⟩)) ∧ PairAt w' w.heap.size q p c (run bk0 xs) ∧ Below w.heap.size w w' := by
  obtain ⟨ao, cap, rfl⟩ : ∃ ao cap, v = .slice ao xs.length cap := by obtain ⟨⟨ao, cap, rfl, _⟩, _⟩ := h; exact ⟨ao, cap, rfl⟩
  have H := hide h
  have Hka : Hid (∀ k, does k = false → (k == ka) = false) := fun k hk => by
    cases hx : (k == ka) with
    | false => rfl
    | true => rw [beq_iff_eq.1 hx, hka] at hk; cases hk
  have Hkb : Hid (∀ k, does k = false → (k == kb) = false) := fun k hk => by
    cases hx : (k == kb) with
    | false => rfl
    | true => rw [beq_iff_eq.1 hx, hkb] at hk; cases hk
  clear h hka hkb
  go_enter Tryz.func17, Tryz.ntmps17
  go_wp2_with fail
  refine (begun_any _).mono ?_
  rintro e w1 ⟨q, p, c, rfl, h1, hb1⟩
  have H1 := hide h1
  have Hb1 := hide hb1
  clear h1 hb1
  go_wp2_with fail
  go_loopg [8] xs.length (fun m i wr => ∃ j : Nat, j ≤ xs.length ∧ m = xs.length - j ∧ i = .int .i64 j ∧ Hid (PairAt wr w.heap.size q p c (run bk0 (xs.take j))) ∧ Hid (Below w.heap.size w wr))
  case atStart => exact ⟨0, by omega, rfl, rfl, unhide H1, unhide Hb1⟩
  case round =>
    obtain ⟨j, hj, rfl, rfl, HP, Hb⟩ := hrel
    by_cases hlt : j < xs.length
    · obtain ⟨x, hx⟩ : ∃ x, xs[j]? = some x := ⟨xs[j], List.getElem?_eq_getElem hlt⟩
      have hat := (unhide H).below (unhide Hb)
      have Hst := hide (run_step (s := bk0) hx)
      have Hok := hide (hat.oks x (List.mem_of_getElem? hx))
      obtain ⟨⟨ao', cap', e1, hr⟩, _⟩ := hat
      simp only [Value.slice.injEq, true_and] at e1
      obtain ⟨rfl, rfl⟩ := e1
      have hr2 := hr.resolve_left (by rintro rfl; simp at hx)
      obtain ⟨b, off, rfl, hbl, hc⟩ := hr2
      have hcx := hc j x hx
      obtain ⟨d0, d1, d2, d3, d4, d5⟩ := hcx
      have Hval : Hid (x.val = .agg #[.int .i64 x.kd, .int .i64 x.bk, .int .i64 x.a, .int .i64 x.b, .slice x.ao x.ls.length x.cap, .string x.t]) := rfl
      have hjj : (j : Int) < (xs.length : Int) := by omega
      clear hr hc hx
      cases hd : does x.kd with
      | false =>
        have ha := unhide Hka _ hd
        have hb := unhide Hkb _ hd
        have hd' := hd
        unfold does at hd'
        simp only [Bool.or_eq_false_iff] at hd'
        obtain ⟨⟨h1, h2⟩, h3⟩ := hd'
        have HP2 : Hid (PairAt wr w.heap.size q p c (run bk0 (xs.take (j + 1)))) := by
          have := unhide Hst
          rw [hd] at this
          simp only [Bool.false_eq_true, if_false] at this
          show PairAt _ _ _ _ _ _
          rw [this]
          exact unhide HP
        obtain ⟨kd, hkd⟩ : ∃ kd, x.kd = kd := ⟨_, rfl⟩
        rw [hkd] at d0 h1 h2 h3 ha hb
        have hna : (kd != ka) = true := by simp [bne, ha]
        have hnb : (kd != kb) = true := by simp [bne, hb]
        clear hd hkd Hst
        go_wp2_with fail
        go_roundg (xs.length - (j + 1))
        case measure => omega
        case rel => exact ⟨j + 1, by omega, rfl, by go_num, unhide HP2, unhide Hb⟩
      | true =>
        have Hdo := hide (do_any w.heap.size q p c (run bk0 (xs.take j)) x wr (unhide HP) (unhide Hok) hd)
        have Hst2 : Hid (run bk0 (xs.take (j + 1)) = stp (run bk0 (xs.take j)) x) := by
          show _ = _
          have := unhide Hst
          rw [hd] at this
          simpa using this
        have h3 : x.kd = 1 ∨ x.kd = 2 ∨ x.kd = 3 := by
          unfold does at hd
          simp only [Bool.or_eq_true, beq_iff_eq] at hd
          omega
        rw [unhide Hval] at Hdo
        have hsz := (unhide Hb).size
        clear hd Hst
        obtain ⟨kd, hkd⟩ : ∃ kd, x.kd = kd := ⟨_, rfl⟩
        rw [hkd] at d0 h3 Hdo
        clear hkd
        rcases h3 with rfl | rfl | rfl
        all_goals
          go_wp2_with fail
          refine (unhide Hdo).mono ?_
          rintro e w2 ⟨rfl, h1, h2⟩
          have HP2 : Hid (PairAt w2 w.heap.size q p c (run bk0 (xs.take (j + 1)))) := by show PairAt _ _ _ _ _ _; rw [unhide Hst2]; exact h1
          have Hb2 : Hid (Below w.heap.size w w2) := (unhide Hb).trans (h2.below hsz)
          clear h1 h2
          go_wp2_with fail
          go_roundg (xs.length - (j + 1))
          case measure => omega
          case rel => exact ⟨j + 1, by omega, rfl, by go_num, unhide HP2, unhide Hb2⟩
    · obtain rfl : j = xs.length := by omega
      have HP2 : Hid (PairAt wr w.heap.size q p c (run bk0 xs)) := by have := unhide HP; rw [List.take_length] at this; exact this
      go_wp2_with fail
      go_ret
      exact ⟨q, p, c, rfl, unhide HP2, unhide Hb⟩

theorem bk0_accT : accT bk0 = [] := rfl

set_option maxRecDepth 100000 in
set_option maxHeartbeats 4000000 in
theorem accounted_walk (v : Value) (xs : List ActV) (w : World) (h : ActsAt w w.heap.size v xs) (hlen : xs.length ≤ 9223372036854775800) (ht : Tab w) :
    Calls Tryz.prog 4 #[v] w fun e w' => e = .returned (.bool true) ∧ Below w.heap.size w w' := by
  obtain ⟨ao, cap, rfl⟩ : ∃ ao cap, v = .slice ao xs.length cap := by obtain ⟨⟨ao, cap, rfl, _⟩, _⟩ := h; exact ⟨ao, cap, rfl⟩
  have H := hide h
  have Ht := hide ht
  clear h ht
  go_enter Tryz.func4, Tryz.ntmps4
  go_wp2_with fail
  refine (played_nil _).mono ?_
  rintro e w1 ⟨q, p, c, rfl, h1, hb1⟩
  have H1 := hide h1
  have Hb1 := hide hb1
  have c0 := h1.blk.cell 0
  simp only [List.getElem?_toArray, List.getElem?_cons_zero] at c0
  clear h1 hb1
  go_wp2_with fail
  refine (dayAccounts_any w.heap.size p bk0 _ (unhide H1).led ((unhide Ht).below (unhide Hb1))).mono ?_
  rintro e w2 ⟨u, rfl, hu, hb2⟩
  have hu0 : u = ⟨#[]⟩ := L_inj (by rw [hu]; rfl)
  subst hu0
  have Hb2 := hide ((unhide Hb1).then hb2)
  have hsz2 := (unhide Hb2).size
  have HA : Hid (ActsAt w2 w2.heap.size (.slice ao xs.length cap) xs) := by
    have h2 := (unhide H).below (unhide Hb2)
    obtain ⟨⟨ao', cap', e1, hr⟩, ho⟩ := h2
    refine ⟨⟨ao', cap', e1, ?_⟩, fun x hx => ⟨(ho x hx).at', (ho x hx).lo.imp id (fun hh k hk => Nat.lt_of_lt_of_le (hh k hk) hsz2), (ho x hx).few, (ho x hx).txt⟩⟩
    rcases hr with hr | ⟨b, off, ha, hbl, hc⟩
    · exact .inl hr
    · exact .inr ⟨b, off, ha, Nat.lt_of_lt_of_le hbl hsz2, hc⟩
  clear hu hb2
  go_wp2_with fail
  refine (played_any _ xs 1 2 _ (unhide HA) rfl rfl hlen).mono ?_
  rintro e w3 ⟨q3, p3, c3, rfl, h3, hb3⟩
  have H3 := hide h3
  have Hb3 := hide ((unhide Hb2).then hb3)
  have d0 := h3.blk.cell 0
  simp only [List.getElem?_toArray, List.getElem?_cons_zero] at d0
  clear h3 hb3
  go_wp2_with fail
  refine (dayAccounts_any w2.heap.size p3 (run bk0 xs) _ (unhide H3).led ((unhide Ht).below (unhide Hb3))).mono ?_
  rintro e w4 ⟨u, rfl, hu, hb4⟩
  have H4 := hide ((unhide H3).kept hb4)
  have Hb4 := hide ((unhide Hb3).then hb4)
  have d1 := (unhide H4).blk.cell 1
  simp only [List.getElem?_toArray, List.getElem?_cons_zero, List.getElem?_cons_succ] at d1
  have Hu := hide hu
  clear hu hb4
  go_wp2_with fail
  refine (refAccounts_any w2.heap.size c3 (run bk0 xs) _ (unhide H4).rfd).mono ?_
  rintro e w5 ⟨u', rfl, hu', hb5⟩
  obtain rfl : u' = u := L_inj (hu'.trans (unhide Hu).symm)
  have Hb5 := hide ((unhide Hb4).then hb5)
  clear hu' hb5
  go_wp2_with fail
  go_ret
  exact ⟨rfl, unhide Hb5⟩

end Go.Proofs.YtdchbenfccofpaaGreatDoor
namespace Go.Proofs.YtdchbenfccofpaaGreatDoor
open Go.RowKit Db Go.ChangeShapes Go.WideShapes Go.ChangeAt Go.WideMaps Go.WideElems Go.Deep

theorem cInt : Tryz.prog.cellsOf 3 = 1 := by kernel_rfl
theorem cStr : Tryz.prog.cellsOf 9 = 1 := by kernel_rfl
theorem cLns : Tryz.prog.cellsOf 31 = 1 := by kernel_rfl
theorem cLine : Tryz.prog.cellsOf 89 = 2 := by kernel_rfl
theorem bLine : Tryz.prog.bytesOf 89 = 16 := by kernel_rfl
theorem reach_eq : reachBytes = 140737488351232 := rfl
theorem blk_lt {w : World} {a : Addr} {v : Value} (h : w.cell? a = some v) : a.block < w.heap.size := World.block_lt_of_cell? w a h
def intV : Value → Int
  | .int _ n => n
  | _ => 0

section
variable {H : Type} {enc : TypeId × Value → H} {W : World} {fuel : Nat} {x : DataW H × List MemPlace}
theorem open_lines {v : Value} (h : DataW.trod enc Tryz.prog W 0 (fun _ => true) true fuel 31 [v] = some x) :
    ∃ ao cap ls, v = .slice ao ls.length cap ∧ LinesAt W v ls ∧ (ls = [] ∨ ∀ k, v.ownBlock = some k → k < W.heap.size) ∧ (ls = [] ∨ ∃ el sp, x.1 = .slice el sp ∧ el.length = ls.length) := by
  rcases open_slice_pairs Tryz.underlying31 Tryz.underlying89 cLine rfl rfl cInt cInt h with ⟨hc, hx⟩ | ⟨a, len, cap, m, n, V0, V1, D0, D1, P0, P1, hc, _, hl, hm, hmm, hx, hcell⟩
  · simp only [List.cons.injEq, and_true] at hc
    subst hc
    exact ⟨none, 0, [], rfl, ⟨none, 0, rfl, .inl rfl⟩, .inl rfl, .inl rfl⟩
  · simp only [List.cons.injEq, and_true] at hc
    subst hc
    simp only [if_true] at hmm
    by_cases h0 : len = 0
    · subst h0
      exact ⟨some a, cap, [], rfl, ⟨some a, cap, rfl, .inl rfl⟩, .inl rfl, .inl rfl⟩
    · obtain ⟨b, off, spot⟩ := a
      have hspot : spot = none := by simpa [Addr.add] using World.cell?_spot (hcell 0 (by omega)).1
      subst hspot
      have hV : ∀ i, i < m → V0 i = .int .i64 (intV (V0 i)) ∧ V1 i = .int .i64 (intV (V1 i)) := by
        intro i hi
        obtain ⟨_, _, t0, t1⟩ := hcell i hi
        obtain ⟨k0, e0, _⟩ := DataW.trod_int Tryz.underlying3 t0
        obtain ⟨k1, e1, _⟩ := DataW.trod_int Tryz.underlying3 t1
        simp only [List.cons.injEq, and_true] at e0 e1
        rw [e0, e1]
        exact ⟨rfl, rfl⟩
      have hbl : b < W.heap.size := by
        have := blk_lt (hcell 0 (by omega)).1
        simpa [Addr.add] using this
      refine ⟨some ⟨b, off, none⟩, cap, (List.range len).map fun i => (intV (V0 i), intV (V1 i)), by simp, ⟨some ⟨b, off, none⟩, cap, by simp, .inr ⟨b, off, rfl, hbl, fun i l hl => ?_⟩⟩, .inr ?_, .inr ⟨_, _, by rw [hx], by simp⟩⟩
      · rw [List.getElem?_map] at hl
        have hi : i < len := by
          rcases Nat.lt_or_ge i len with hi | hi
          · exact hi
          · rw [List.getElem?_eq_none (by simpa using hi)] at hl; simp at hl
        rw [List.getElem?_range hi] at hl
        simp only [Option.map_some, Option.some.injEq] at hl
        subst hl
        have hc := hcell i (by omega)
        rw [Addr.add_lit, Addr.add_lit] at hc
        have hv := hV i (by omega)
        simp only
        rw [← hv.1, ← hv.2]
        exact ⟨hc.1, by rw [← Nat.add_assoc] at hc; exact hc.2.1⟩
      · intro k hk
        simp only [Value.ownBlock, Option.some.injEq] at hk
        omega

theorem weightsAll_mem {P : Program} {e : TypeId} : ∀ {l : List (DataW H)} {d : DataW H}, d ∈ l → ∀ n ∈ d.weights P e, n ∈ DataW.weightsAll P e l
  | d' :: r, d, hd, n, hn => by
    simp only [DataW.weightsAll, List.mem_append]
    rcases List.mem_cons.1 hd with rfl | h
    · exact Or.inl hn
    · exact Or.inr (weightsAll_mem h n hn)
end
end Go.Proofs.YtdchbenfccofpaaGreatDoor
namespace Go.Proofs.YtdchbenfccofpaaGreatDoor
open Go.RowKit Db Go.ChangeShapes Go.WideShapes Go.ChangeAt Go.WideMaps Go.WideElems Go.Deep

theorem cAct : Tryz.prog.cellsOf 33 = 6 := by kernel_rfl
theorem bAct : Tryz.prog.bytesOf 33 = 72 := by kernel_rfl

section
variable {H : Type} {enc : TypeId × Value → H} {W : World} {fuel : Nat} {x : DataW H × List MemPlace}
instance : Inhabited ActV := ⟨⟨0, 0, 0, 0, none, 0, [], ⟨#[]⟩⟩⟩
set_option maxRecDepth 100000 in
/-- One step, from its six cells. -/
theorem open_act {cs : List Value} (h : DataW.trod enc Tryz.prog W 0 (fun _ => true) true fuel 33 cs = some x) (hcs : cs.length = 6) (hsz : ∀ n ∈ x.1.weights Tryz.prog 33, n ≤ reachBytes) :
    ∃ y : ActV, cs = [.int .i64 y.kd, .int .i64 y.bk, .int .i64 y.a, .int .i64 y.b, .slice y.ao y.ls.length y.cap, .string y.t] ∧ ActOk W W.heap.size y := by
  obtain ⟨xs, n, rfl, rfl, _, hxl, hf⟩ := DataW.trod_struct Tryz.underlying33 h
  match cs, hcs, xs, hxl with
  | [v0, v1, v2, v3, v4, v5], _, [y0, y1, y2, y3, y4, y5], _ =>
    have g0 := hf 0 _ rfl
    have g1 := hf 1 _ rfl
    have g2 := hf 2 _ rfl
    have g3 := hf 3 _ rfl
    have g4 := hf 4 _ rfl
    have g5 := hf 5 _ rfl
    simp [cInt, cStr, cLns] at g0 g1 g2 g3 g4 g5
    obtain ⟨k0, e0, _⟩ := DataW.trod_int Tryz.underlying3 g0
    obtain ⟨k1, e1, _⟩ := DataW.trod_int Tryz.underlying3 g1
    obtain ⟨k2, e2, _⟩ := DataW.trod_int Tryz.underlying3 g2
    obtain ⟨k3, e3, _⟩ := DataW.trod_int Tryz.underlying3 g3
    obtain ⟨s5, e5, _, hs5⟩ := DataW.trod_string Tryz.underlying9 g5
    obtain ⟨ao, cap, ls, e4, hL, hlo, hw⟩ := open_lines g4
    simp only [List.cons.injEq, and_true] at e0 e1 e2 e3 e5
    subst e0 e1 e2 e3 e4 e5
    refine ⟨⟨k0, k1, k2, k3, ao, cap, ls, s5⟩, rfl, hL, hlo, ?_, hs5⟩
    rcases hw with rfl | ⟨el, sp, hx4, hel⟩
    · simp
    · have := hsz ((el.length + sp.length) * 16) (by
        simp only [List.map_cons, List.map_nil, DataW.weights, Tryz.underlying33]
        simp [DataW.weightsEach, hx4, DataW.weights, Tryz.underlying31, bLine])
      rw [reach_eq] at this
      simp only
      omega

/-- All steps. -/
theorem open_acts {v : Value} {ts : List TypeId} {ds : List (DataW H)} (h : DataW.trod enc Tryz.prog W 0 (fun _ => true) true fuel 22 [v] = some x) (hsz : (DataW.weightsEach Tryz.prog ts ds).all (· ≤ reachBytes) = true) {j : Nat} (hj : ts[j]? = some 22) (hd : ds[j]? = some x.1) :
    ∃ ys : List ActV, ActsAt W W.heap.size v ys ∧ ys.length ≤ 9223372036854775800 := by
  rcases open_slice Tryz.underlying22 h with ⟨hc, hx⟩ | ⟨a, len, cap, m, n, D, Pl, hc, _, hl, hm, hmm, hx, hel⟩
  · simp only [List.cons.injEq, and_true] at hc
    subst hc
    exact ⟨[], ⟨⟨none, 0, rfl, .inl rfl⟩, by simp⟩, by simp⟩
  · simp only [List.cons.injEq, and_true] at hc
    subst hc
    simp only [if_true] at hmm
    subst hx
    have hbig := sized_slice hsz hj hd Tryz.underlying22
    rw [bAct, reach_eq] at hbig
    simp only [List.length_map, List.length_range] at hbig
    by_cases h0 : len = 0
    · subst h0
      exact ⟨[], ⟨⟨some a, cap, rfl, .inl rfl⟩, by simp⟩, by simp⟩
    · obtain ⟨b, off, spot⟩ := a
      have each : ∀ i, i < len → ∃ y : ActV, (∀ (f : Nat) (u : Value), [Value.int .i64 y.kd, .int .i64 y.bk, .int .i64 y.a, .int .i64 y.b, .slice y.ao y.ls.length y.cap, .string y.t][f]? = some u → W.cell? ((⟨b, off, spot⟩ : Addr).add (i * 6 + f)) = some u) ∧ ActOk W W.heap.size y := by
        intro i hi
        obtain ⟨cs', h1, h2⟩ := hel i (by omega)
        rw [cAct] at h1
        obtain ⟨_, hlen, hcell⟩ := World.cells?_some h1
        obtain ⟨y, rfl, hy⟩ := open_act h2 hlen (fun k hk => by
          refine of_decide_eq_true (List.all_eq_true.1 hsz _ (DataW.weights_mem_each hj hd _ ?_))
          simp only [DataW.weights, Tryz.underlying22, List.mem_cons, List.mem_append]
          exact Or.inr (Or.inl (weightsAll_mem (List.mem_map.2 ⟨i, List.mem_range.2 hi, rfl⟩) _ hk)))
        refine ⟨y, fun f u hu => ?_, hy⟩
        have hf : f < 6 := by have := (List.getElem?_eq_some_iff.1 hu).1; simpa using this
        have he := hcell f hf
        rw [hu, add_add] at he
        exact he
      have hspot : spot = none := by
        obtain ⟨y, hy, _⟩ := each 0 (by omega)
        have := World.cell?_spot (hy 0 _ rfl)
        simpa [Addr.add] using this
      subst hspot
      have hbl : b < W.heap.size := by
        obtain ⟨y, hy, _⟩ := each 0 (by omega)
        have := blk_lt (hy 0 _ rfl)
        simpa [Addr.add] using this
      obtain ⟨Y, hY⟩ := choose_lt each
      refine ⟨(List.range len).map Y, ⟨⟨some ⟨b, off, none⟩, cap, by simp, .inr ⟨b, off, rfl, hbl, fun i y hy => ?_⟩⟩, fun y hy => ?_⟩, by simp; omega⟩
      · rw [List.getElem?_map] at hy
        have hi : i < len := by
          rcases Nat.lt_or_ge i len with hi | hi
          · exact hi
          · rw [List.getElem?_eq_none (by simpa using hi)] at hy; simp at hy
        rw [List.getElem?_range hi] at hy
        simp only [Option.map_some, Option.some.injEq] at hy
        subst hy
        have hc := (hY i hi).1
        refine ⟨?_, ?_, ?_, ?_, ?_, ?_⟩
        · have := hc 0 _ rfl; rw [Addr.add_lit] at this; simpa [Nat.add_assoc] using this
        · have := hc 1 _ rfl; rw [Addr.add_lit] at this; simpa [Nat.add_assoc] using this
        · have := hc 2 _ rfl; rw [Addr.add_lit] at this; simpa [Nat.add_assoc] using this
        · have := hc 3 _ rfl; rw [Addr.add_lit] at this; simpa [Nat.add_assoc] using this
        · have := hc 4 _ rfl; rw [Addr.add_lit] at this; simpa [Nat.add_assoc] using this
        · have := hc 5 _ rfl; rw [Addr.add_lit] at this; simpa [Nat.add_assoc] using this
      · obtain ⟨i, hi, rfl⟩ := List.mem_map.1 hy
        exact (hY i (List.mem_range.1 hi)).2
end
end Go.Proofs.YtdchbenfccofpaaGreatDoor
namespace Go.Proofs.YtdchbenfccofpaaGreatDoor
open Go.RowKit Db

set_option maxRecDepth 100000 in
set_option maxHeartbeats 2000000 in
theorem within_any (B p : Nat) (s : Bk) (a n : Int) (w : World) (h : Rfd w B p s) (ha : a < s.acs.length) :
    Calls Tryz.prog 195 #[.pointer (some ⟨p, 0, none⟩), .int .i64 a, .int .i64 n] w fun e w' => e = .returned (.bool (wth s.acs n 16 a)) ∧ w' = w := by
  obtain ⟨vp, vc, vt, tv, h⟩ := h
  obtain ⟨g, cap, rfl, hg, hg'⟩ := ownsRow_some h.par h.good.one
  have c0 := h.blk.cell 0
  simp only [List.getElem?_toArray, List.getElem?_cons_zero] at c0
  have hfew := h.good.few
  have H := hide h
  clear h
  go_enter Tryz.func195, Tryz.ntmps195
  go_wp2_with fail
  go_loopg [1, 7] 16 (fun m v i wr => ∃ j : Nat, ∃ x : Int, j ≤ 16 ∧ m = 16 - j ∧ i = .int .i64 j ∧ v = .int .i64 x ∧ x < s.acs.length ∧ Hid (wth s.acs n (16 - j) x = wth s.acs n 16 a) ∧ wr = w)
  case atStart => exact ⟨0, a, by omega, rfl, rfl, rfl, ha, rfl, rfl⟩
  case round =>
    obtain ⟨j, x, hj, rfl, rfl, rfl, hx, Ho, rfl⟩ := hrel
    by_cases hlt : j < 16
    · obtain ⟨f, hf⟩ : ∃ f, 16 - j = f + 1 := ⟨15 - j, by omega⟩
      have hw := unhide Ho
      rw [hf, wth_at] at hw
      by_cases h0 : x < 0
      · have hng : ¬ 0 ≤ x := by omega
        rw [if_pos h0] at hw
        have Hw := hide hw
        clear hw
        go_wp2_with fail
        go_ret
        exact ⟨retB' (unhide Hw), rfl⟩
      · rw [if_neg h0] at hw
        have h0' : 0 ≤ x := by omega
        by_cases hn : x = n
        · subst hn
          rw [if_pos (by simp)] at hw
          have Hw := hide hw
          clear hw
          go_wp2_with fail
          go_ret
          exact ⟨retB' (unhide Hw), rfl⟩
        · have hne : (x == n) = false := by simpa using hn
          rw [hne] at hw
          simp only [Bool.false_eq_true, if_false] at hw
          obtain ⟨k, rfl⟩ : ∃ k : Nat, x = k := ⟨x.toNat, by omega⟩
          have hk : k < s.acs.length := by omega
          obtain ⟨c, hc⟩ := acs_get hk
          rw [Int.toNat_natCast, List.getD_eq_getElem?_getD, hc, Option.getD_some] at hw
          have hord := (unhide H).good.ord _ _ hc
          have d := ownsRow_cell (unhide H).par (j := k) (u := .int .i64 c.1) (by rw [List.getElem?_map, hc]; rfl)
          have Hw := hide hw
          obtain ⟨c1, c2⟩ := c
          simp only at d hord Hw
          clear hw hc
          go_wp2_with fail
          go_roundg (16 - (j + 1))
          case measure => omega
          case rel => exact ⟨j + 1, c1, by omega, rfl, by go_num, rfl, by omega, by show _ = _; rw [show 16 - (j + 1) = f by omega]; exact unhide Hw, rfl⟩
    · obtain rfl : j = 16 := by omega
      have Hw : Hid (false = wth s.acs n 16 a) := (unhide Ho)
      clear Ho
      go_wp2_with fail
      go_ret
      exact ⟨retB' (unhide Hw), rfl⟩

set_option maxRecDepth 100000 in
set_option maxHeartbeats 8000000 in
theorem taken_any (B p : Nat) (s : Bk) (sel n a b : Int) (w : World) (h : Rfd w B p s) :
    Calls Tryz.prog 165 #[.pointer (some ⟨p, 0, none⟩), .int .u8 sel, .int .i64 n, .int .i64 a, .int .i64 b] w fun e w' => e = .returned (.tuple #[.int .i64 (tkT (inA s sel n) a b s.txs).1, .int .i64 (tkT (inA s sel n) a b s.txs).2]) ∧ Below w.heap.size w w' := by
  have Hwi := hide (fun (wx : World) (x : Int) (hx : x < s.acs.length) (h : Rfd wx B p s) => within_any B p s x n wx h hx)
  obtain ⟨vp, vc, vt, tv, h⟩ := h
  obtain ⟨ao, cap, rfl⟩ := ownsRow_form h.txs.own
  have c2 := h.blk.cell 2
  simp only [List.getElem?_toArray, List.getElem?_cons_zero, List.getElem?_cons_succ] at c2
  have hlen : tv.length ≤ 64 := by have := h.good.posts; rw [← h.jr, List.length_map] at this; exact this
  have Hjr := hide h.jr
  obtain ⟨q, hq⟩ : ∃ q, inA s sel n = q := ⟨_, rfl⟩
  have Hq := hide hq
  rw [hq]
  have H := hide h
  clear h hq
  go_enter Tryz.func165, Tryz.ntmps165
  go_wp2_with fail
  go_loopg [12, 13, 14] tv.length (fun m v u i wr => ∃ j : Nat, ∃ x : Int, ∃ c : Int, j ≤ tv.length ∧ m = tv.length - j ∧ i = .int .i64 j ∧ v = .int .i64 x ∧ u = .int .i64 c ∧ -(4000000000000 * (j : Int)) ≤ x ∧ x ≤ 4000000000000 * (j : Int) ∧ 0 ≤ c ∧ c ≤ 4 * (j : Int) ∧ Hid (x + (tkT q a b (s.txs.drop j)).1 = (tkT q a b s.txs).1 ∧ c + (tkT q a b (s.txs.drop j)).2 = (tkT q a b s.txs).2) ∧ Hid (Below w.heap.size w wr))
  case atStart => exact ⟨0, 0, 0, by omega, rfl, rfl, rfl, rfl, by omega, by omega, by omega, by omega, ⟨by simp, by simp⟩, Below.refl _ _⟩
  case round =>
    obtain ⟨j, x, c, hj, rfl, rfl, rfl, rfl, hx0, hx1, hc0, hc1, Ho, Hb⟩ := hrel
    have hsz := (unhide Hb).size
    have HB := hide ((unhide H).blk.kept (unhide Hb))
    have e2 := (unhide HB).cell 2
    simp only [List.getElem?_toArray, List.getElem?_cons_zero, List.getElem?_cons_succ] at e2
    by_cases hlt : j < tv.length
    · obtain ⟨⟨t, v⟩, ht⟩ : ∃ t, tv[j]? = some t := ⟨tv[j], List.getElem?_eq_getElem hlt⟩
      obtain ⟨g, _, e1, hg, hg'⟩ := ownsRow_some (unhide H).txs.own (by omega)
      simp only [Value.slice.injEq, true_and] at e1
      obtain ⟨rfl, rfl⟩ := e1
      have h3 := three_get (fun x : Tn × Value => Value.int .i64 x.1.1) (fun x => .int .i64 x.1.2.1) (fun x => x.2) tv j (t, v) ht
      have hro := ownsRow_below (unhide H).txs.own (unhide Hb)
      have d0 := ownsRow_cell hro (j := j * 3) h3.1
      have d1 := ownsRow_cell hro (j := j * 3 + 1) h3.2.1
      have d2 := ownsRow_cell hro (j := j * 3 + 2) h3.2.2
      have hmem := List.mem_of_getElem? ht
      have hl := (unhide H).txs.lns _ hmem
      have hst : s.txs[j]? = some t := by rw [← unhide Hjr, List.getElem?_map, ht]; rfl
      have hgt := (unhide H).good.tx t (List.mem_of_getElem? hst)
      have hga := (unhide H).good.acc t (List.mem_of_getElem? hst)
      have Hst := hide (tkT_O (q := q) (a := a) (b := b) hst)
      obtain ⟨ti, td, ls⟩ := t
      simp only at d0 d1 d2 hl hgt Hst hga
      obtain ⟨aol, capl, rfl⟩ := ownsRow_form hl
      have hl4 := hgt.2.2.2.2.1
      have Hlb := hide hgt.2.2.2.2.2
      have Hga := hide hga
      have Hl := hide (ownsRow_below hl (unhide Hb))
      clear h3 hro hmem hl hst hgt ht hga
      obtain ⟨ok, hok⟩ : ∃ ok, inD a b td = ok := ⟨_, rfl⟩
      rw [hok] at Hst
      go_wp2_with fail
      obtain ⟨W, hW⟩ : ∃ W, W = wr.alloc (.cells #[.int .i64 ti, .int .i64 td, .slice aol ls.length capl] 87) := ⟨_, rfl⟩
      have HbW : Hid (Below w.heap.size w W) := by rw [hW]; exact (unhide Hb).alloc hsz _
      have HlW : Hid (W.ownsRow B 89 2 (.slice aol ls.length capl) ls.length (cellsL ls)) := by rw [hW]; exact (unhide Hl).alloc _
      have HTx : Hid (Blk W wr.heap.size #[.int .i64 ti, .int .i64 td, .slice aol ls.length capl] 87) := by rw [hW]; exact Blk.new _ _ _
      have hWs : W.heap.size = wr.heap.size + 1 := by rw [hW]; simp
      rw [← hW]
      clear hW
      go_loopg [12, 13, 16] ls.length (fun m v u i wx => ∃ k : Nat, ∃ y : Int, ∃ z : Int, k ≤ ls.length ∧ m = ls.length - k ∧ i = .int .i64 k ∧ v = .int .i64 y ∧ u = .int .i64 z ∧ -(4000000000000 * (j : Int)) - 1000000000000 * (k : Int) ≤ y ∧ y ≤ 4000000000000 * (j : Int) + 1000000000000 * (k : Int) ∧ 0 ≤ z ∧ z ≤ 4 * (j : Int) + k ∧ Hid (y + (tkO ok q (ls.drop k)).1 = x + (tkO ok q ls).1 ∧ z + (tkO ok q (ls.drop k)).2 = c + (tkO ok q ls).2) ∧ wx = W)
      case atStart => exact ⟨0, x, c, by omega, rfl, rfl, rfl, rfl, by omega, by omega, by omega, by omega, ⟨by simp, by simp⟩, rfl⟩
      case round =>
        obtain ⟨k, y, z, hk, rfl, rfl, rfl, rfl, hy0, hy1, hz0, hz1, Hy, hWx⟩ := hrel
        subst hWx
        have hszW := (unhide HbW).size
        have t1 := (unhide HTx).cell 1
        have t2 := (unhide HTx).cell 2
        simp only [List.getElem?_toArray, List.getElem?_cons_zero, List.getElem?_cons_succ] at t1 t2
        by_cases hlt2 : k < ls.length
        · obtain ⟨⟨la, lm⟩, hlk⟩ : ∃ l, ls[k]? = some l := ⟨ls[k], List.getElem?_eq_getElem hlt2⟩
          obtain ⟨g2, _, e1, hg2, hg2'⟩ := ownsRow_some (unhide HlW) (by omega)
          simp only [Value.slice.injEq, true_and] at e1
          obtain ⟨rfl, rfl⟩ := e1
          have h2 := two_get (fun x : Ln => Value.int .i64 x.1) (fun x => .int .i64 x.2) ls k (la, lm) hlk
          have f0 := ownsRow_cell (unhide HlW) (j := k * 2) h2.1
          have f1 := ownsRow_cell (unhide HlW) (j := k * 2 + 1) h2.2
          have hb := unhide Hlb (la, lm) (List.mem_of_getElem? hlk)
          have hla := unhide Hga (la, lm) (List.mem_of_getElem? hlk)
          have Hyes := hide (tkO_yes (ok := ok) (q := q) hlk)
          have Hno := hide (tkO_no (ok := ok) (q := q) hlk)
          simp only at f0 f1 hb hla Hyes Hno
          clear h2 hlk
          obtain ⟨wv, hwv⟩ : ∃ wv, wth s.acs n 16 la = wv := ⟨_, rfl⟩
          have Hc := hide (unhide Hwi wr la hla ⟨_, _, _, _, (unhide H).kept (unhide HbW)⟩)
          rw [hwv] at Hc
          have Hwr : Hid (lm ≤ 1000000000000 ∧ -1000000000000 ≤ lm) := ⟨hb.2.2.2, hb.2.2.1⟩
          have hwr : IntKind.i64.wrap (y + lm) = y + lm := by rw [IntKind.wrap_i64]; omega
          have hwz : IntKind.i64.wrap (z + 1) = z + 1 := by rw [IntKind.wrap_i64]; omega
          clear hb
          go_wp2_with fail
          refine (unhide Hc).mono ?_
          rintro e w1 ⟨rfl, hw1⟩
          subst hw1
          have Hin : Hid (q la = if sel == 33 then la == n else wv) := by show _ = _; rw [← unhide Hq, ← hwv]; rfl
          clear hwv Hc
          by_cases hs : sel = 33
          · subst hs
            have Hin2 : Hid (q la = (la == n)) := by show _ = _; have := unhide Hin; simpa using this
            clear Hin
            cases hv : (la == n) with
            | false =>
              have Hn := hide (unhide Hno (.inl (by rw [unhide Hin2, hv])))
              go_wp2_with fail
              go_roundg (ls.length - (k + 1))
              case measure => omega
              case rel => exact ⟨k + 1, y, z, by omega, rfl, by go_num, rfl, rfl, by omega, by omega, by omega, by omega, by have h1 := unhide Hy; have h2 := unhide Hn; show _ ∧ _; omega, rfl⟩
            | true =>
              have Hqt : Hid (q la = true) := by show _ = _; rw [unhide Hin2, hv]
              by_cases e1 : a ≤ td
              · by_cases e2 : td ≤ b
                · have Hn := hide (unhide Hyes (by rw [← hok]; simp [inD, e1, e2]) (unhide Hqt))
                  go_wp2_with fail
                  go_roundg (ls.length - (k + 1))
                  case measure => omega
                  case rel => exact ⟨k + 1, y + lm, z + 1, by omega, rfl, by go_num, rfl, rfl, by have := unhide Hwr; omega, by have := unhide Hwr; omega, by omega, by omega, by have h1 := unhide Hy; have h2 := unhide Hn; show _ ∧ _; omega, rfl⟩
                · have Hn := hide (unhide Hno (.inr (by rw [← hok]; simp [inD, e2])))
                  go_wp2_with fail
                  go_roundg (ls.length - (k + 1))
                  case measure => omega
                  case rel => exact ⟨k + 1, y, z, by omega, rfl, by go_num, rfl, rfl, by omega, by omega, by omega, by omega, by have h1 := unhide Hy; have h2 := unhide Hn; show _ ∧ _; omega, rfl⟩
              · have Hn := hide (unhide Hno (.inr (by rw [← hok]; simp [inD, e1])))
                go_wp2_with fail
                go_roundg (ls.length - (k + 1))
                case measure => omega
                case rel => exact ⟨k + 1, y, z, by omega, rfl, by go_num, rfl, rfl, by omega, by omega, by omega, by omega, by have h1 := unhide Hy; have h2 := unhide Hn; show _ ∧ _; omega, rfl⟩
          · have hne : (sel == 33) = false := by simpa using hs
            have Hin2 : Hid (q la = wv) := by have := unhide Hin; rw [hne] at this; exact this
            clear Hin
            cases wv with
            | false =>
              have Hn := hide (unhide Hno (.inl (unhide Hin2)))
              go_wp2_with fail
              go_roundg (ls.length - (k + 1))
              case measure => omega
              case rel => exact ⟨k + 1, y, z, by omega, rfl, by go_num, rfl, rfl, by omega, by omega, by omega, by omega, by have h1 := unhide Hy; have h2 := unhide Hn; show _ ∧ _; omega, rfl⟩
            | true =>
              by_cases e1 : a ≤ td
              · by_cases e2 : td ≤ b
                · have Hn := hide (unhide Hyes (by rw [← hok]; simp [inD, e1, e2]) (unhide Hin2))
                  go_wp2_with fail
                  go_roundg (ls.length - (k + 1))
                  case measure => omega
                  case rel => exact ⟨k + 1, y + lm, z + 1, by omega, rfl, by go_num, rfl, rfl, by have := unhide Hwr; omega, by have := unhide Hwr; omega, by omega, by omega, by have h1 := unhide Hy; have h2 := unhide Hn; show _ ∧ _; omega, rfl⟩
                · have Hn := hide (unhide Hno (.inr (by rw [← hok]; simp [inD, e2])))
                  go_wp2_with fail
                  go_roundg (ls.length - (k + 1))
                  case measure => omega
                  case rel => exact ⟨k + 1, y, z, by omega, rfl, by go_num, rfl, rfl, by omega, by omega, by omega, by omega, by have h1 := unhide Hy; have h2 := unhide Hn; show _ ∧ _; omega, rfl⟩
              · have Hn := hide (unhide Hno (.inr (by rw [← hok]; simp [inD, e1])))
                go_wp2_with fail
                go_roundg (ls.length - (k + 1))
                case measure => omega
                case rel => exact ⟨k + 1, y, z, by omega, rfl, by go_num, rfl, rfl, by omega, by omega, by omega, by omega, by have h1 := unhide Hy; have h2 := unhide Hn; show _ ∧ _; omega, rfl⟩
        · obtain rfl : k = ls.length := by omega
          have hyy : y = x + (tkO ok q ls).1 ∧ z = c + (tkO ok q ls).2 := by have := unhide Hy; rw [tkO_end] at this; simpa using this
          have Ho2 : Hid (y + (tkT q a b (s.txs.drop (j + 1))).1 = (tkT q a b s.txs).1 ∧ z + (tkT q a b (s.txs.drop (j + 1))).2 = (tkT q a b s.txs).2) := by
            have h1 := unhide Ho
            have h2 := unhide Hst
            show _ ∧ _
            omega
          clear hyy
          go_wp2_with fail
          go_roundg (tv.length - (j + 1))
          case measure => omega
          case rel => exact ⟨j + 1, y, z, by omega, rfl, by go_num, rfl, rfl, by omega, by omega, by omega, by omega, unhide Ho2, unhide HbW⟩
    · obtain rfl : j = tv.length := by omega
      have Hfin : Hid (x = (tkT q a b s.txs).1 ∧ c = (tkT q a b s.txs).2) := by
        have := unhide Ho
        rw [List.drop_of_length_le (by rw [← unhide Hjr, List.length_map]; exact Nat.le_refl _)] at this
        show _ ∧ _
        simpa [tkT] using this
      go_wp2_with fail
      go_ret2
      rw [(unhide Hfin).1, (unhide Hfin).2]
      exact ⟨rfl, unhide Hb⟩

end Go.Proofs.YtdchbenfccofpaaGreatDoor
namespace Go.Proofs.YtdchbenfccofpaaGreatDoor
open Go.RowKit Db

theorem ret_int {k : IntKind} {a b : Int} (h : a = b) : Ending.returned (.int k a) = .returned (.int k b) := by rw [h]

theorem bare_yes (s u : ByteArray) (k : Nat) (h : k < s.size) (hb : ¬ s[k].toNat = 32) (hu : L u = bare ((L s).take k)) :
    L (u ++ s.extract k (k + 1)) = bare ((L s).take (k + 1)) := by
  rw [L_append, L_one s k h, L_take_succ s k h, bare_append, bare_other hb, hu]
theorem bare_no (s u : ByteArray) (k : Nat) (h : k < s.size) (hb : s[k].toNat = 32) (hu : L u = bare ((L s).take k)) :
    L u = bare ((L s).take (k + 1)) := by
  rw [L_take_succ s k h, bare_append, bare_blank hb, hu, List.append_nil]
theorem bare_size (s u : ByteArray) (k : Nat) (hu : L u = bare ((L s).take k)) : u.size ≤ k := by
  rw [← L_length, hu]; exact Nat.le_trans (bare_le _) (List.length_take_le _ _)

set_option maxHeartbeats 400000 in
theorem bare_any (s : ByteArray) (w : World) (hs : s.size ≤ 200) :
    Calls Tryz.prog 153 #[.string s] w fun e w' => ∃ t : ByteArray, e = .returned (.string t) ∧ L t = bare (L s) ∧ w' = w := by
  go_enter Tryz.func153, Tryz.ntmps153
  go_wp2
  go_loop [3, 4] (fun t i => ∃ k : Nat, ∃ u : ByteArray, k ≤ s.size ∧ i = .int .i64 k ∧ t = .string u ∧ Hid (L u = bare ((L s).take k))) (fun _ i => s.size - (intOf i).toNat)
  case atStart => exact ⟨0, _, Nat.zero_le _, rfl, rfl, hide rfl⟩
  case round =>
    obtain ⟨k, u, hk, rfl, rfl, Hu⟩ := hrel
    have hz := bare_size s u k (unhide Hu)
    by_cases hlt : k < s.size
    · by_cases hb : s[k].toNat = 32
      · have hb' : ((s[k].toNat : Int) != 32) = false := by simp; omega
        go_wp2
        go_round
        case rel => exact ⟨k + 1, u, by omega, by go_num, rfl, bare_no s u k hlt hb (unhide Hu)⟩
        case measure => simp [intOf]; omega
      · have hb' : ((s[k].toNat : Int) != 32) = true := by simp; omega
        go_wp2
        go_round
        case rel => exact ⟨k + 1, _, by omega, by go_num, rfl, bare_yes s u k hlt hb (unhide Hu)⟩
        case measure => simp [intOf]; omega
    · go_wp2
      go_ret
      exact ⟨u, rfl, by rw [unhide Hu, L_take_end s k (by omega)], rfl⟩

theorem val_step (s : ByteArray) (k : Nat) (h : k < s.size) (n : Int) : valGo n ((L s).drop k) = valGo (10 * n + ((s[k].toNat : Int) - 48)) ((L s).drop (k + 1)) := by
  rw [L_drop s k h]; rfl
def pow10 (k : Nat) : Int := 10 ^ k
theorem pow10_succ (k : Nat) : pow10 (k + 1) = 10 * pow10 k := by unfold pow10; rw [Int.pow_succ]; omega
theorem pow10_pos (k : Nat) : 1 ≤ pow10 k := by
  induction k with
  | zero => decide
  | succ k ih => rw [pow10_succ]; omega
theorem pow10_le (k : Nat) (h : k ≤ 17) : pow10 k ≤ 100000000000000000 := by
  have : pow10 17 = 100000000000000000 := by decide
  have key : ∀ d j : Nat, j + d = 17 → pow10 j ≤ pow10 17 := by
    intro d
    induction d with
    | zero => intro j hj; rw [show j = 17 by omega]; exact Int.le_refl _
    | succ d ih => intro j hj; have := ih (j + 1) (by omega); rw [pow10_succ] at this; have := pow10_pos j; omega
  have := key (17 - k) k (by omega)
  omega

set_option maxHeartbeats 400000 in
theorem value_any (s : ByteArray) (w : World) (hs : s.size ≤ 18) (hd : ∀ k (h : k < s.size), 48 ≤ s[k].toNat ∧ s[k].toNat ≤ 57) :
    Calls Tryz.prog 154 #[.string s] w fun e w' => e = .returned (.int .i64 (val (L s))) ∧ 0 ≤ val (L s) ∧ val (L s) < pow10 s.size ∧ w' = w := by
  have Hd := hide hd
  clear hd
  go_enter Tryz.func154, Tryz.ntmps154
  go_wp2
  go_loop [3, 4] (fun t i => ∃ k : Nat, ∃ n : Int, k ≤ s.size ∧ i = .int .i64 k ∧ t = .int .i64 n ∧ 0 ≤ n ∧ n < pow10 k ∧ Hid (val (L s) = valGo n ((L s).drop k))) (fun _ i => s.size - (intOf i).toNat)
  case atStart => exact ⟨0, 0, Nat.zero_le _, rfl, rfl, by omega, by decide, hide rfl⟩
  case round =>
    obtain ⟨k, n, hk, rfl, rfl, h0, h1, Hu⟩ := hrel
    by_cases hlt : k < s.size
    · have hdd := unhide Hd k hlt
      have hp := pow10_le k (by omega)
      have hn : n ≤ 99999999999999999 := by omega
      clear hp
      go_wp2
      go_round
      case rel =>
        have hp2 := pow10_succ k
        refine ⟨k + 1, _, by omega, by go_num, rfl, by omega, by omega, ?_⟩
        show val _ = _
        rw [unhide Hu, val_step s k hlt]
      case measure => simp [intOf]; omega
    · go_wp2
      go_ret
      have hk' : k = s.size := by omega
      subst hk'
      have e : val (L s) = n := by rw [unhide Hu, L_drop_end s _ (Nat.le_refl _)]; rfl
      exact ⟨ret_int e.symm, by omega, by omega, rfl⟩


theorem split_step (s : ByteArray) (c : UInt8) (acc : List (List UInt8)) (f k : Nat) (hf : f ≤ k) (h : k < s.size) (hb : ¬ s[k] = c) :
    splitGo c acc (L (s.extract f k)) ((L s).drop k) = splitGo c acc (L (s.extract f (k + 1))) ((L s).drop (k + 1)) := by
  rw [L_drop s k h]
  show (if s[k] = c then _ else _) = _
  rw [if_neg hb]
  congr 1
  rw [L_extract, L_extract, show k + 1 - f = (k - f) + 1 by omega, List.take_succ_eq_append_getElem (by rw [List.length_drop, L_length]; omega)]
  congr 2
  rw [List.getElem_drop]
  simp only [show f + (k - f) = k by omega]
  exact (L_get s k h).symm
theorem split_cut (s : ByteArray) (c : UInt8) (acc : List (List UInt8)) (f k : Nat) (h : k < s.size) (hb : s[k] = c) :
    splitGo c acc (L (s.extract f k)) ((L s).drop k) = splitGo c (acc ++ [L (s.extract f k)]) (L (s.extract (k + 1) (k + 1))) ((L s).drop (k + 1)) := by
  rw [L_drop s k h]
  show (if s[k] = c then _ else _) = _
  rw [if_pos hb, L_extract s (k + 1) (k + 1), Nat.sub_self, List.take_zero]

theorem info_string : (Tryz.prog.info? 9).map (fun i => (i.zero, i.size, i.bytes)) = some (some (.string ⟨#[]⟩), 1, 16) := by kernel_rfl

set_option maxHeartbeats 400000 in
theorem split_any (s : ByteArray) (c : UInt8) (w : World) (hs : s.size ≤ 50000) :
    Calls Tryz.prog 77 #[.string s, .int .u8 (c.toNat : Int)] w fun e w' => ∃ v : Value, ∃ ss : List ByteArray, e = .returned v ∧ ss.map L = split (L s) c ∧
      w'.ownsRow w.heap.size 9 1 v ss.length (ss.map Value.string) ∧ Below w.heap.size w w' := by
  obtain ⟨i, hi, hz0, hz1, hz2⟩ := info_parts info_string
  go_enter Tryz.func77, Tryz.ntmps77
  go_wp2
  go_loopw [5, 6, 7] (fun v f i wr => ∃ k fr : Nat, ∃ ss : List ByteArray, fr ≤ k ∧ k ≤ s.size ∧ i = .int .i64 k ∧ f = .int .i64 fr ∧ ss.length ≤ k ∧
      Hid (splitGo c (ss.map L) (L (s.extract fr k)) ((L s).drop k) = split (L s) c) ∧ Hid (wr.ownsRow w.heap.size 9 1 v ss.length (ss.map Value.string)) ∧ Hid (Below w.heap.size w wr)) (fun _ _ i _ => s.size - (intOf i).toNat)
  case atStart => exact ⟨0, 0, [], by omega, by omega, rfl, rfl, by simp, hide (by rw [L_extract]; rfl), hide (World.ownsRow_nil _ _ _ _), hide (Below.refl _ _)⟩
  case round =>
    obtain ⟨k, fr, ss, hfr, hk, rfl, rfl, hss, Hs, Ho, Hb⟩ := hrel
    have hsz := (unhide Hb).size
    by_cases hlt : k < s.size
    · by_cases hc : s[k] = c
      · have hc' : ((s[k].toNat : Int) == (c.toNat : Int)) = true := by rw [hc]; simp
        have HC := hide hc
        clear hc
        go_wp2_with (first
          | (at_builtin; refine wpList_append_own _ rfl _ _ 115 rfl w.heap.size 9 i (.string ⟨#[]⟩) 1 16 Tryz.underlying115 hi hz0 hz1 hz2 rfl (by decide) _ _ _ rfl ((unhide Ho).alloc _) ⟨wr.heap.size, 0, none⟩ 1 1 [.string (s.extract fr k)] rfl rfl (cell_one_new _ _ _) (fun x hx => by simp at hx; subst hx; rfl) (by unfold maxLen; omega) (by omega) (by simp; omega) ?_; intro v' w2 hown2 hgr2 _))
        have Hown := hide hown2
        have Hgr := hide hgr2
        clear hown2 hgr2
        go_wp2
        go_roundw
        case rel =>
          refine ⟨k + 1, k + 1, ss ++ [s.extract fr k], by omega, by omega, by go_num, by go_num, by simp; omega, ?_, ?_, ?_⟩
          · show splitGo _ _ _ _ = _
            rw [← unhide Hs, split_cut s c _ fr k hlt (unhide HC)]; simp
          · show World.ownsRow _ _ _ _ _ _ _
            simpa using unhide Hown
          · exact ((unhide Hb).alloc hsz _).grown (unhide Hgr) (by simp; omega) (fun g hg => ((unhide Ho).lt g hg).1)
        case measure => simp [intOf]; omega
      · have hc' : ((s[k].toNat : Int) == (c.toNat : Int)) = false := by
          rw [beq_eq_false_iff_ne]; intro h; exact hc (UInt8.toNat_inj.1 (by omega))
        go_wp2
        go_roundw
        case rel =>
          refine ⟨k + 1, fr, ss, by omega, by omega, by go_num, rfl, by omega, ?_, Ho, Hb⟩
          show splitGo _ _ _ _ = _
          rw [← unhide Hs, split_step s c _ fr k hfr hlt hc]
        case measure => simp [intOf]; omega
    · have hk' : k = s.size := by omega
      subst hk'
      clear hk hlt
      go_wp2_with (first
          | (at_builtin; refine wpList_append_own _ rfl _ _ 115 rfl w.heap.size 9 i (.string ⟨#[]⟩) 1 16 Tryz.underlying115 hi hz0 hz1 hz2 rfl (by decide) _ _ _ rfl ((unhide Ho).alloc _) ⟨wr.heap.size, 0, none⟩ 1 1 [.string (s.extract fr s.size)] rfl rfl (cell_one_new _ _ _) (fun x hx => by simp at hx; subst hx; rfl) (by unfold maxLen; omega) (by omega) (by simp; omega) ?_; intro v' w2 hown2 hgr2 _))
      have Hown := hide hown2
      have Hgr := hide hgr2
      clear hown2 hgr2
      go_wp2
      go_ret
      refine ⟨v', ss ++ [s.extract fr s.size], rfl, ?_, ?_, ?_⟩
      · rw [← unhide Hs, L_drop_end s _ (Nat.le_refl _)]; simp [splitGo]
      · simpa using unhide Hown
      · exact ((unhide Hb).alloc hsz _).grown (unhide Hgr) (by simp; omega) (fun g hg => ((unhide Ho).lt g hg).1)

end Go.Proofs.YtdchbenfccofpaaGreatDoor
namespace Go.Proofs.YtdchbenfccofpaaGreatDoor
open Go.RowKit Db

/-- The byte ahead of place i. -/
def prv (s : ByteArray) (i : Nat) : Int := if h : 0 < i ∧ i - 1 < s.size then ((s[i - 1]'h.2).toNat : Int) else -1
theorem prv_zero (s : ByteArray) : prv s 0 = -1 := by simp [prv]
theorem prv_succ (s : ByteArray) (i : Nat) (h : i < s.size) : prv s (i + 1) = (s[i].toNat : Int) := by simp [prv, h]

set_option maxHeartbeats 400000 in
theorem binary_any (s : ByteArray) (i : Nat) (w : World) (hs : s.size ≤ 200) (hi : i < s.size) :
    Calls Tryz.prog 212 #[.string s, .int .i64 (i : Int)] w fun e w' => e = .returned (.bool (binB (prv s i) (s[i].toNat : Int))) ∧ w' = w := by
  by_cases ho : opB (s[i].toNat : Int) = true
  · by_cases h0 : i = 0
    · subst h0
      have Hp := hide (prv_zero s)
      go_enter Tryz.func212, Tryz.ntmps212
      go_wp2_with (go_at_call 161; refine (operation_any _ _).mono ?_; rintro e w' ⟨rfl, rfl⟩)
      go_ret
      exact ⟨by rw [unhide Hp]; simp [binB, digB], rfl⟩
    · obtain ⟨j, rfl⟩ : ∃ j, i = j + 1 := ⟨i - 1, by omega⟩
      have Hp := hide (prv_succ s j (by omega))
      have h0' : (((j + 1 : Nat) : Int) == 0) = false := by rw [beq_eq_false_iff_ne]; omega
      clear h0
      by_cases hd : digB (s[j].toNat : Int) = true
      all_goals
        go_enter Tryz.func212, Tryz.ntmps212
        go_wp2_with (first
          | (go_at_call 161; refine (operation_any _ _).mono ?_; rintro e w' ⟨rfl, rfl⟩)
          | (go_at_call 158; refine (digit_any _ _).mono ?_; rintro e w' ⟨rfl, rfl⟩))
        go_ret
        exact ⟨by rw [unhide Hp]; simp [binB, hd, ho], rfl⟩
  · go_enter Tryz.func212, Tryz.ntmps212
    go_wp2_with (go_at_call 161; refine (operation_any _ _).mono ?_; rintro e w' ⟨rfl, rfl⟩)
    go_ret
    exact ⟨by simp [binB, ho], rfl⟩


theorem fin_step (s : ByteArray) (a b : Int) (j : Nat) (h : j < s.size) (k at_ : Int) :
    finGo a b (prv s j) k at_ j ((L s).drop j) = finGo a b (prv s (j + 1)) (dep k (s[j].toNat : Int)) (hit a b (prv s j) (dep k (s[j].toNat : Int)) at_ j (s[j].toNat : Int)) ((j + 1 : Nat) : Int) ((L s).drop (j + 1)) := by
  rw [L_drop s j h, prv_succ s j h]; rfl
theorem bin_not (p c : Int) (h : c = 40 ∨ c = 41) : binB p c = false := by rcases h with rfl | rfl <;> simp [binB, opB]
theorem hit_not (a b p k at_ i c : Int) (h : binB p c = false) : hit a b p k at_ i c = at_ := by simp [hit, h]
theorem hit_deep (a b p k at_ i c : Int) (h : (k == 0) = false) : hit a b p k at_ i c = at_ := by simp [hit, h]
theorem hit_other (a b p k at_ i c : Int) (h : (c == a) = false) (h2 : (c == b) = false) : hit a b p k at_ i c = at_ := by simp [hit, h, h2]
theorem hit_yes (a b p k at_ i c : Int) (h : binB p c = true) (h1 : (k == 0) = true) (h2 : (c == a) = true ∨ (c == b) = true) : hit a b p k at_ i c = i := by
  simp only [hit, h, h1]; rcases h2 with h2 | h2 <;> simp [h2]
theorem dep_open (k c : Int) (h : (c == 40) = true) : dep k c = k + 1 := by simp only [dep, h]; rfl
theorem dep_shut (k c : Int) (h0 : (c == 40) = false) (h : (c == 41) = true) : dep k c = k - 1 := by simp only [dep, h0, h]; rfl
theorem dep_else (k c : Int) (h0 : (c == 40) = false) (h : (c == 41) = false) : dep k c = k := by simp only [dep, h0, h]; rfl

set_option maxHeartbeats 1000000 in
theorem final_any (s : ByteArray) (a b : Int) (w : World) (hs : s.size ≤ 200) :
    Calls Tryz.prog 193 #[.string s, .int .u8 a, .int .u8 b] w fun e w' => e = .returned (.int .i64 (fin (L s) a b)) ∧ w' = w := by
  go_enter Tryz.func193, Tryz.ntmps193
  go_wp2
  go_loop [7, 8, 9] (fun o t i => ∃ j : Nat, ∃ k at_ : Int, j ≤ s.size ∧ i = .int .i64 j ∧ o = .int .i64 k ∧ t = .int .i64 at_ ∧ -j ≤ k ∧ k ≤ j ∧ Hid (finGo a b (prv s j) k at_ j ((L s).drop j) = fin (L s) a b)) (fun _ _ i => s.size - (intOf i).toNat)
  case atStart => exact ⟨0, 0, -1, Nat.zero_le _, rfl, rfl, rfl, by omega, by omega, hide (by rw [prv_zero]; rfl)⟩
  case round =>
    obtain ⟨j, k, at_, hj, rfl, rfl, rfl, hk1, hk2, Hf⟩ := hrel
    by_cases hlt : j < s.size
    · have Hst := hide (fin_step s a b j hlt k at_)
      obtain ⟨bn, hbn⟩ : ∃ bn, binB (prv s j) (s[j].toNat : Int) = bn := ⟨_, rfl⟩
      have Hbn := hide hbn
      clear hbn
      by_cases h40 : ((s[j].toNat : Int) == 40) = true
      · have hb : bn = false := by rw [← unhide Hbn]; exact bin_not _ _ (Or.inl (by simpa using h40))
        subst hb
        go_wp2_with (go_at_call 212; refine (binary_any s j _ hs hlt).mono ?_; rintro e w' ⟨rfl, rfl⟩; rw [unhide Hbn])
        go_round
        case rel => exact ⟨j + 1, _, _, by omega, by go_num, rfl, rfl, by omega, by omega, by show _ = _; rw [← unhide Hf, unhide Hst, dep_open _ _ h40, hit_not _ _ _ _ _ _ _ (unhide Hbn)]⟩
        case measure => simp [intOf]; omega
      · have h40' : ((s[j].toNat : Int) == 40) = false := by simpa using h40
        by_cases h41 : ((s[j].toNat : Int) == 41) = true
        · have hb : bn = false := by rw [← unhide Hbn]; exact bin_not _ _ (Or.inr (by simpa using h41))
          subst hb
          go_wp2_with (go_at_call 212; refine (binary_any s j _ hs hlt).mono ?_; rintro e w' ⟨rfl, rfl⟩; rw [unhide Hbn])
          go_round
          case rel => exact ⟨j + 1, _, _, by omega, by go_num, rfl, rfl, by omega, by omega, by show _ = _; rw [← unhide Hf, unhide Hst, dep_shut _ _ h40' h41, hit_not _ _ _ _ _ _ _ (unhide Hbn)]⟩
          case measure => simp [intOf]; omega
        · have h41' : ((s[j].toNat : Int) == 41) = false := by simpa using h41
          have Hd := hide (dep_else k (s[j].toNat : Int) h40' h41')
          clear h40 h41
          cases bn with
          | false =>
            go_wp2_with (go_at_call 212; refine (binary_any s j _ hs hlt).mono ?_; rintro e w' ⟨rfl, rfl⟩; rw [unhide Hbn])
            go_round
            case rel => exact ⟨j + 1, _, _, by omega, by go_num, rfl, rfl, by omega, by omega, by show _ = _; rw [← unhide Hf, unhide Hst, unhide Hd, hit_not _ _ _ _ _ _ _ (unhide Hbn)]⟩
            case measure => simp [intOf]; omega
          | true =>
            by_cases hk0 : (k == 0) = true
            · by_cases ha : ((s[j].toNat : Int) == a) = true
              · go_wp2_with (go_at_call 212; refine (binary_any s j _ hs hlt).mono ?_; rintro e w' ⟨rfl, rfl⟩; rw [unhide Hbn])
                go_round
                case rel => exact ⟨j + 1, _, _, by omega, by go_num, rfl, rfl, by omega, by omega, by show _ = _; rw [← unhide Hf, unhide Hst, unhide Hd, hit_yes _ _ _ _ _ _ _ (unhide Hbn) hk0 (Or.inl ha)]⟩
                case measure => simp [intOf]; omega
              · have ha' : ((s[j].toNat : Int) == a) = false := by simpa using ha
                clear ha
                by_cases hb : ((s[j].toNat : Int) == b) = true
                · go_wp2_with (go_at_call 212; refine (binary_any s j _ hs hlt).mono ?_; rintro e w' ⟨rfl, rfl⟩; rw [unhide Hbn])
                  go_round
                  case rel => exact ⟨j + 1, _, _, by omega, by go_num, rfl, rfl, by omega, by omega, by show _ = _; rw [← unhide Hf, unhide Hst, unhide Hd, hit_yes _ _ _ _ _ _ _ (unhide Hbn) hk0 (Or.inr hb)]⟩
                  case measure => simp [intOf]; omega
                · have hb' : ((s[j].toNat : Int) == b) = false := by simpa using hb
                  clear hb
                  go_wp2_with (go_at_call 212; refine (binary_any s j _ hs hlt).mono ?_; rintro e w' ⟨rfl, rfl⟩; rw [unhide Hbn])
                  go_round
                  case rel => exact ⟨j + 1, _, _, by omega, by go_num, rfl, rfl, by omega, by omega, by show _ = _; rw [← unhide Hf, unhide Hst, unhide Hd, hit_other _ _ _ _ _ _ _ ha' hb']⟩
                  case measure => simp [intOf]; omega
            · have hk0' : (k == 0) = false := by simpa using hk0
              clear hk0
              go_wp2_with (go_at_call 212; refine (binary_any s j _ hs hlt).mono ?_; rintro e w' ⟨rfl, rfl⟩; rw [unhide Hbn])
              go_round
              case rel => exact ⟨j + 1, _, _, by omega, by go_num, rfl, rfl, by omega, by omega, by show _ = _; rw [← unhide Hf, unhide Hst, unhide Hd, hit_deep _ _ _ _ _ _ _ hk0']⟩
              case measure => simp [intOf]; omega
    · go_wp2
      go_ret
      exact ⟨ret_int (by rw [← unhide Hf, L_drop_end s _ (by omega)]; rfl), rfl⟩

/-- What a cut gives, as values. -/
def CutV (s : ByteArray) (o : Int) (l r : ByteArray) : Prop := (cut (L s)).1 = o ∧ L l = (cut (L s)).2.1 ∧ L r = (cut (L s)).2.2
theorem L_getD (s : ByteArray) (k : Nat) (h : k < s.size) : (L s).getD k 0 = s[k] := by
  rw [List.getD_eq_getElem?_getD, L_get? s k h]; rfl
theorem L_getD0 (s : ByteArray) (h : 0 < s.size) : (L s).getD 0 0 = s[0] := L_getD s 0 h
theorem cutV_at (s : ByteArray) (i : Nat) (h0 : 0 < i) (h : i < s.size) (hc : cutAt (L s) = (i : Int)) : CutV s (s[i].toNat : Int) (s.extract 0 i) (s.extract (i + 1) s.size) := by
  unfold CutV cut
  rw [if_pos (by rw [hc]; omega)]
  refine ⟨?_, ?_, ?_⟩
  · simp only [hc, Int.toNat_natCast]; rw [L_getD s i h]
  · simp only [hc, Int.toNat_natCast]; rw [L_extract]; simp
  · simp only [hc, Int.toNat_natCast]; rw [L_extract]; exact List.take_of_length_le (by rw [List.length_drop, L_length]; omega)
theorem cutV_neg (s : ByteArray) (hn : cutAt (L s) ≤ 0) (h : 1 < s.size) (hc : (s[0].toNat : Int) = 45) : CutV s 126 ⟨#[]⟩ (s.extract 1 s.size) := by
  unfold CutV cut
  rw [if_neg (Int.not_lt.2 hn), if_pos ⟨by rw [L_length]; exact h, by rw [L_getD0 s (by omega)]; exact hc⟩]
  refine ⟨rfl, rfl, ?_⟩
  rw [L_extract]; exact List.take_of_length_le (by rw [List.length_drop, L_length]; omega)
theorem cutV_par (s : ByteArray) (hn : cutAt (L s) ≤ 0) (h : 2 < s.size) (hc : (s[0].toNat : Int) = 40) : CutV s 40 ⟨#[]⟩ (s.extract 1 (s.size - 1)) := by
  unfold CutV cut
  rw [if_neg (Int.not_lt.2 hn), if_neg (by rintro ⟨_, h2⟩; rw [L_getD0 s (by omega)] at h2; omega), if_pos ⟨by rw [L_length]; exact h, by rw [L_getD0 s (by omega)]; exact hc⟩]
  refine ⟨rfl, rfl, ?_⟩
  rw [L_extract, L_length, show s.size - 1 - 1 = s.size - 2 by omega]
theorem cutV_not (s : ByteArray) (hn : cutAt (L s) ≤ 0) (h1 : ¬ (1 < (L s).length ∧ (((L s).getD 0 0).toNat : Int) = 45)) (h2 : ¬ (2 < (L s).length ∧ (((L s).getD 0 0).toNat : Int) = 40)) : CutV s 0 ⟨#[]⟩ s := by
  unfold CutV cut
  rw [if_neg (Int.not_lt.2 hn), if_neg h1, if_neg h2]
  exact ⟨rfl, rfl, rfl⟩

theorem cutV_not' (s : ByteArray) (hn : cutAt (L s) ≤ 0) (h1 : ¬ (1 < s.size ∧ ∃ h : 0 < s.size, (s[0].toNat : Int) = 45)) (h2 : ¬ (2 < s.size ∧ ∃ h : 0 < s.size, (s[0].toNat : Int) = 40)) : CutV s 0 ⟨#[]⟩ s := by
  refine cutV_not s hn ?_ ?_
  · rintro ⟨ha, hb⟩
    rw [L_length] at ha
    rw [L_getD0 s (by omega)] at hb
    exact h1 ⟨ha, by omega, hb⟩
  · rintro ⟨ha, hb⟩
    rw [L_length] at ha
    rw [L_getD0 s (by omega)] at hb
    exact h2 ⟨ha, by omega, hb⟩

set_option maxHeartbeats 1000000 in
theorem cut_any (s : ByteArray) (w : World) (hs : s.size ≤ 200) :
    Calls Tryz.prog 156 #[.string s] w fun e w' => ∃ o : Int, ∃ l r : ByteArray, e = .returned (.tuple #[.int .u8 o, .string l, .string r]) ∧ CutV s o l r ∧ ∃ n, w' = w.drewN n := by
  have hlt := cutAt_lt (L s)
  rw [L_length] at hlt
  obtain ⟨f1, hf1⟩ : ∃ f1, fin (L s) 43 45 = f1 := ⟨_, rfl⟩
  obtain ⟨f2, hf2⟩ : ∃ f2, fin (L s) 42 47 = f2 := ⟨_, rfl⟩
  obtain ⟨i, hi⟩ : ∃ i, cutAt (L s) = i := ⟨_, rfl⟩
  have hi' := hi
  unfold cutAt at hi'
  rw [hf1, hf2] at hi'
  rw [hi] at hlt
  have Hf1 := hide hf1
  have Hf2 := hide hf2
  have Hi := hide hi
  clear hf1 hf2 hi
  by_cases hneg : f1 < 0
  · rw [if_pos hneg] at hi'
    subst hi'
    by_cases hpos : 0 < f2
    · obtain ⟨n, rfl⟩ := Int.eq_ofNat_of_zero_le (show 0 ≤ f2 by omega)
      have hn : n < s.size := by omega
      have hn1 : n + 1 ≤ s.size := by omega
      go_enter Tryz.func156, Tryz.ntmps156
      go_wp2_with fail
      refine (final_any s 43 45 _ hs).mono ?_
      rintro e w' ⟨rfl, rfl⟩
      rw [unhide Hf1]
      go_wp2_with fail
      refine (final_any s 42 47 _ hs).mono ?_
      rintro e w' ⟨rfl, rfl⟩
      rw [unhide Hf2]
      go_wp2_with fail
      go_quiet (fail)
      go_wp2
      go_ret3
      exact ⟨_, _, _, rfl, cutV_at s n (by omega) hn (unhide Hi), _, rfl⟩
    have Hn : Hid (cutAt (L s) ≤ 0) := by show _ ≤ _; rw [unhide Hi]; omega
    by_cases h1 : 1 < s.size
    · have h0 : 0 < s.size := by omega
      by_cases h45 : ((s[0].toNat : Int) == 45) = true
      · have H45 : Hid ((s[0].toNat : Int) = 45) := by show _ = _; simpa using h45
        go_enter Tryz.func156, Tryz.ntmps156
        go_wp2_with fail
        refine (final_any s 43 45 _ hs).mono ?_
        rintro e w' ⟨rfl, rfl⟩
        rw [unhide Hf1]
        go_wp2_with fail
        refine (final_any s 42 47 _ hs).mono ?_
        rintro e w' ⟨rfl, rfl⟩
        rw [unhide Hf2]
        go_wp2_with fail
        go_quiet (fail)
        go_wp2
        go_ret3
        exact ⟨_, _, _, rfl, cutV_neg s (unhide Hn) h1 (unhide H45), _, rfl⟩
      have h45' : ((s[0].toNat : Int) == 45) = false := by simpa using h45
      have H45 : Hid (¬ (s[0].toNat : Int) = 45) := by show ¬ _; simpa using h45
      clear h45
      by_cases h2 : 2 < s.size
      · by_cases h40 : ((s[0].toNat : Int) == 40) = true
        · have H40 : Hid ((s[0].toNat : Int) = 40) := by show _ = _; simpa using h40
          have ez : ((s.size : Int) - 1) = ((s.size - 1 : Nat) : Int) := by omega
          have Hez := hide ez
          clear ez
          go_enter Tryz.func156, Tryz.ntmps156
          go_wp2_with fail
          refine (final_any s 43 45 _ hs).mono ?_
          rintro e w' ⟨rfl, rfl⟩
          rw [unhide Hf1]
          go_wp2_with fail
          refine (final_any s 42 47 _ hs).mono ?_
          rintro e w' ⟨rfl, rfl⟩
          rw [unhide Hf2]
          go_wp2_with fail
          go_quiet (fail)
          go_wp2
          go_ret3
          exact ⟨_, _, _, rfl, cutV_par s (unhide Hn) h2 (unhide H40), _, rfl⟩
        · have h40' : ((s[0].toNat : Int) == 40) = false := by simpa using h40
          have H40 : Hid (¬ (s[0].toNat : Int) = 40) := by show ¬ _; simpa using h40
          clear h40
          go_enter Tryz.func156, Tryz.ntmps156
          go_wp2_with fail
          refine (final_any s 43 45 _ hs).mono ?_
          rintro e w' ⟨rfl, rfl⟩
          rw [unhide Hf1]
          go_wp2_with fail
          refine (final_any s 42 47 _ hs).mono ?_
          rintro e w' ⟨rfl, rfl⟩
          rw [unhide Hf2]
          go_wp2_with fail
          go_ret3
          exact ⟨_, _, _, rfl, cutV_not' s (unhide Hn) (fun ⟨_, _, h⟩ => unhide H45 h) (fun ⟨_, _, h⟩ => unhide H40 h), 0, rfl⟩
      · 
        go_enter Tryz.func156, Tryz.ntmps156
        go_wp2_with fail
        refine (final_any s 43 45 _ hs).mono ?_
        rintro e w' ⟨rfl, rfl⟩
        rw [unhide Hf1]
        go_wp2_with fail
        refine (final_any s 42 47 _ hs).mono ?_
        rintro e w' ⟨rfl, rfl⟩
        rw [unhide Hf2]
        go_wp2_with fail
        go_ret3
        exact ⟨_, _, _, rfl, cutV_not' s (unhide Hn) (fun ⟨_, _, h⟩ => unhide H45 h) (fun ⟨h, _, _⟩ => by omega), 0, rfl⟩
    · 
      go_enter Tryz.func156, Tryz.ntmps156
      go_wp2_with fail
      refine (final_any s 43 45 _ hs).mono ?_
      rintro e w' ⟨rfl, rfl⟩
      rw [unhide Hf1]
      go_wp2_with fail
      refine (final_any s 42 47 _ hs).mono ?_
      rintro e w' ⟨rfl, rfl⟩
      rw [unhide Hf2]
      go_wp2_with fail
      go_ret3
      exact ⟨_, _, _, rfl, cutV_not' s (unhide Hn) (fun ⟨h, _, _⟩ => by omega) (fun ⟨h, _, _⟩ => by omega), 0, rfl⟩
  · rw [if_neg hneg] at hi'
    subst hi'
    by_cases hpos : 0 < f1
    · obtain ⟨n, rfl⟩ := Int.eq_ofNat_of_zero_le (show 0 ≤ f1 by omega)
      have hn : n < s.size := by omega
      have hn1 : n + 1 ≤ s.size := by omega
      go_enter Tryz.func156, Tryz.ntmps156
      go_wp2_with fail
      refine (final_any s 43 45 _ hs).mono ?_
      rintro e w' ⟨rfl, rfl⟩
      rw [unhide Hf1]
      go_wp2_with fail
      go_quiet (fail)
      go_wp2
      go_ret3
      exact ⟨_, _, _, rfl, cutV_at s n (by omega) hn (unhide Hi), _, rfl⟩
    have Hn : Hid (cutAt (L s) ≤ 0) := by show _ ≤ _; rw [unhide Hi]; omega
    by_cases h1 : 1 < s.size
    · have h0 : 0 < s.size := by omega
      by_cases h45 : ((s[0].toNat : Int) == 45) = true
      · have H45 : Hid ((s[0].toNat : Int) = 45) := by show _ = _; simpa using h45
        go_enter Tryz.func156, Tryz.ntmps156
        go_wp2_with fail
        refine (final_any s 43 45 _ hs).mono ?_
        rintro e w' ⟨rfl, rfl⟩
        rw [unhide Hf1]
        go_wp2_with fail
        go_quiet (fail)
        go_wp2
        go_ret3
        exact ⟨_, _, _, rfl, cutV_neg s (unhide Hn) h1 (unhide H45), _, rfl⟩
      have h45' : ((s[0].toNat : Int) == 45) = false := by simpa using h45
      have H45 : Hid (¬ (s[0].toNat : Int) = 45) := by show ¬ _; simpa using h45
      clear h45
      by_cases h2 : 2 < s.size
      · by_cases h40 : ((s[0].toNat : Int) == 40) = true
        · have H40 : Hid ((s[0].toNat : Int) = 40) := by show _ = _; simpa using h40
          have ez : ((s.size : Int) - 1) = ((s.size - 1 : Nat) : Int) := by omega
          have Hez := hide ez
          clear ez
          go_enter Tryz.func156, Tryz.ntmps156
          go_wp2_with fail
          refine (final_any s 43 45 _ hs).mono ?_
          rintro e w' ⟨rfl, rfl⟩
          rw [unhide Hf1]
          go_wp2_with fail
          go_quiet (fail)
          go_wp2
          go_ret3
          exact ⟨_, _, _, rfl, cutV_par s (unhide Hn) h2 (unhide H40), _, rfl⟩
        · have h40' : ((s[0].toNat : Int) == 40) = false := by simpa using h40
          have H40 : Hid (¬ (s[0].toNat : Int) = 40) := by show ¬ _; simpa using h40
          clear h40
          go_enter Tryz.func156, Tryz.ntmps156
          go_wp2_with fail
          refine (final_any s 43 45 _ hs).mono ?_
          rintro e w' ⟨rfl, rfl⟩
          rw [unhide Hf1]
          go_wp2_with fail
          go_ret3
          exact ⟨_, _, _, rfl, cutV_not' s (unhide Hn) (fun ⟨_, _, h⟩ => unhide H45 h) (fun ⟨_, _, h⟩ => unhide H40 h), 0, rfl⟩
      · 
        go_enter Tryz.func156, Tryz.ntmps156
        go_wp2_with fail
        refine (final_any s 43 45 _ hs).mono ?_
        rintro e w' ⟨rfl, rfl⟩
        rw [unhide Hf1]
        go_wp2_with fail
        go_ret3
        exact ⟨_, _, _, rfl, cutV_not' s (unhide Hn) (fun ⟨_, _, h⟩ => unhide H45 h) (fun ⟨h, _, _⟩ => by omega), 0, rfl⟩
    · 
      go_enter Tryz.func156, Tryz.ntmps156
      go_wp2_with fail
      refine (final_any s 43 45 _ hs).mono ?_
      rintro e w' ⟨rfl, rfl⟩
      rw [unhide Hf1]
      go_wp2_with fail
      go_ret3
      exact ⟨_, _, _, rfl, cutV_not' s (unhide Hn) (fun ⟨h, _, _⟩ => by omega) (fun ⟨h, _, _⟩ => by omega), 0, rfl⟩

end Go.Proofs.YtdchbenfccofpaaGreatDoor
namespace Go.Proofs.YtdchbenfccofpaaGreatDoor
open Go.RowKit Db

/-- What a step of a spot answers. -/
def SpotR (r : Option (Int × Int × Int)) (e : Ending) : Prop :=
  ∃ a d o : Int, ∃ ok : Bool, e = .returned (.tuple #[.agg #[.int .i64 a, .int .i64 d, .int .i64 o], .bool ok]) ∧ r = if ok then some (a, d, o) else none

theorem beq_false_of {a b : Int} (h : ¬ a = b) : (a == b) = false := by simpa using h
theorem dig_ne {c : Int} (h : digB c = true) (b : Int) (hb : digB b = false) : (c == b) = false := by
  rw [beq_eq_false_iff_ne]; intro e; subst e; rw [h] at hb; cases hb
theorem sel_ne {c : Int} (h : selB c = true) (b : Int) (hb : selB b = false) : (c == b) = false := by
  rw [beq_eq_false_iff_ne]; intro e; subst e; rw [h] at hb; cases hb
theorem old_ne {c : Int} (h : oldB c = true) (b : Int) (hb : oldB b = false) : (c == b) = false := by
  rw [beq_eq_false_iff_ne]; intro e; subst e; rw [h] at hb; cases hb
theorem op_ne {c : Int} (h : opB c = true) (b : Int) (hb : opB b = false) : (c == b) = false := by
  rw [beq_eq_false_iff_ne]; intro e; subst e; rw [h] at hb; cases hb
theorem sel_dig {c : Int} (h : selB c = true) : digB c = false := by
  simp [selB] at h; rcases h with (rfl | rfl) | rfl <;> rfl
theorem old_dig {c : Int} (h : oldB c = true) : digB c = false := by
  simp [oldB] at h; rcases h with rfl | rfl <;> rfl
theorem old_sel {c : Int} (h : oldB c = true) : selB c = false := by
  simp [oldB] at h; rcases h with rfl | rfl <;> rfl
theorem op_dig {c : Int} (h : opB c = true) : digB c = false := by
  simp [opB] at h; rcases h with ((rfl | rfl) | rfl) | rfl <;> rfl

end Go.Proofs.YtdchbenfccofpaaGreatDoor
namespace Go.Proofs.YtdchbenfccofpaaGreatDoor
open Go.RowKit Db

set_option maxHeartbeats 1000000 in
theorem joined_any (o a b : Int) (w : World) (ho : opB o = true) (ha : 0 ≤ a ∧ a ≤ 2) (hb : 0 ≤ b ∧ b ≤ 2) :
    Calls Tryz.prog 157 #[.int .u8 o, .int .i64 a, .int .i64 b] w fun e w' => e = .returned (.int .i64 (joinK o a b)) ∧ w' = w := by
  simp [opB] at ho
  have ha' : a = 0 ∨ a = 1 ∨ a = 2 := by omega
  have hb' : b = 0 ∨ b = 1 ∨ b = 2 := by omega
  clear ha hb
  rcases ho with ((rfl | rfl) | rfl) | rfl <;> rcases ha' with rfl | rfl | rfl <;> rcases hb' with rfl | rfl | rfl
  all_goals
    go_enter Tryz.func157, Tryz.ntmps157
    go_wp2
    go_ret
    exact ⟨rfl, rfl⟩

theorem ret_bool {a b : Bool} (h : a = b) : Ending.returned (.bool a) = .returned (.bool b) := by rw [h]
theorem oldDig_at (s : ByteArray) (h : oldDig (L s)) : ∀ i (hi : i + 1 < s.size), oldB ((s[i]'(by omega)).toNat : Int) = true → digB (s[i + 1].toNat : Int) = true := by
  intro i hi
  have key : ∀ (l : List UInt8) (i : Nat), oldDig l → ∀ c d r, l.drop i = c :: d :: r → oldB c.toNat = true → digB d.toNat = true := by
    intro l
    induction l with
    | nil => intro i _ c d r e; simp at e
    | cons x t ih =>
      intro i ho c d r e hc
      cases i with
      | zero =>
        simp at e
        obtain ⟨rfl, rfl⟩ := e
        exact ho.1 hc
      | succ i => exact ih i ho.2 c d r (by simpa using e) hc
  exact key (L s) i h _ _ _ (by rw [L_drop s i (by omega), L_drop s (i + 1) hi])
theorem rch_step (s : ByteArray) (row : Int) (i : Nat) (h : i + 1 < s.size) : rch row ((L s).drop i) = ((oldB ((s[i]'(by omega)).toNat : Int) && decide (row ≤ (s[i + 1].toNat : Int) - 48)) || rch row ((L s).drop (i + 1))) := by
  rw [L_drop s i (by omega), L_drop s (i + 1) h]; rfl
theorem rch_end (s : ByteArray) (row : Int) (i : Nat) (h : s.size ≤ i + 1) : rch row ((L s).drop i) = false := by
  by_cases hi : i < s.size
  · rw [L_drop s i hi, L_drop_end s (i + 1) h]; simp [rch]
  · rw [L_drop_end s i (by omega)]; rfl

set_option maxHeartbeats 1000000 in
theorem reaches_any (s : ByteArray) (row : Int) (w : World) (hs : s.size ≤ 200) (hr : oldDig (L s)) :
    Calls Tryz.prog 111 #[.string s, .int .i64 row] w fun e w' => e = .returned (.bool (rch row (L s))) ∧ w' = w := by
  have Ho := hide (oldDig_at s hr)
  clear hr
  go_enter Tryz.func111, Tryz.ntmps111
  go_wp2
  go_loop [5] (fun i => ∃ k : Nat, k ≤ s.size ∧ i = .int .i64 k ∧ Hid (rch row ((L s).drop k) = rch row (L s))) (fun i => s.size - (intOf i).toNat)
  case atStart => exact ⟨0, Nat.zero_le _, rfl, hide rfl⟩
  case round =>
    obtain ⟨k, hk, rfl, Hu⟩ := hrel
    by_cases hlt : k + 1 < s.size
    · have Hst := hide (rch_step s row k hlt)
      by_cases ho : oldB (s[k].toNat : Int) = true
      · have hd := unhide Ho k hlt ho
        simp [digB] at hd
        obtain ⟨hd1, hd2⟩ := hd
        by_cases hge : row ≤ (s[k + 1].toNat : Int) - 48
        · have Hge := hide hge
          go_wp2_with (go_at_call 155; refine (older_any _ _).mono ?_; rintro e w' ⟨rfl, rfl⟩)
          go_ret
          exact ⟨by rw [← unhide Hu, unhide Hst, ho]; simp [unhide Hge], rfl⟩
        · have Hge := hide hge
          go_wp2_with (go_at_call 155; refine (older_any _ _).mono ?_; rintro e w' ⟨rfl, rfl⟩)
          go_round
          case rel => exact ⟨k + 1, by omega, by go_num, by show _ = _; rw [← unhide Hu, unhide Hst]; have := unhide Hge; simp; omega⟩
          case measure => simp [intOf]; omega
      · have ho' : oldB (s[k].toNat : Int) = false := by simpa using ho
        clear ho
        have Hst' : Hid (rch row ((L s).drop k) = rch row ((L s).drop (k + 1))) := by
          show _ = _
          rw [unhide Hst, ho']; simp
        go_wp2_with (go_at_call 155; refine (older_any _ _).mono ?_; rintro e w' ⟨rfl, rfl⟩)
        go_round
        case rel => exact ⟨k + 1, by omega, by go_num, by show _ = _; rw [← unhide Hu, unhide Hst']⟩
        case measure => simp [intOf]; omega
    · have Hend := hide (rch_end s row k (by omega))
      go_wp2
      go_ret
      exact ⟨ret_bool (by rw [← unhide Hu, unhide Hend]), rfl⟩

theorem size_of_L {s t : ByteArray} {l : List UInt8} (h : L t = l) (hl : l.length ≤ (L s).length) : t.size ≤ s.size := by
  rw [← L_length, ← L_length, h]; exact hl

theorem info_int : (Tryz.prog.info? 3).map (fun i => (i.zero, i.size, i.bytes)) = some (some (.int .i64 0), 1, 8) := by kernel_rfl

/-- What the kind of a row comes to. -/
def KindR (rows : List Int) (ps : List Pt) (k : Int) : Prop := 0 ≤ k ∧ k ≤ 2 ∧ ∀ q st, kEval rows (ps ++ q) st = kEval rows q (k :: st)

set_option maxHeartbeats 1000000 in
theorem kind_leaf (s : ByteArray) (ps : List Pt) (rows : List Int) (v : Value) (base : Nat) (w : World) (hs : s.size ≤ 200) (hcut : cut (L s) = (0, [], L s)) (hop : Opnd (L s) ps)
    (hn : ∀ p ∈ ps, oldB p.1 = true → p.2.toNat < rows.length) (hrows : ∀ x ∈ rows, 0 ≤ x ∧ x ≤ 2) (hown : w.ownsRow base 3 1 v rows.length (rows.map (.int .i64))) :
    Calls Tryz.prog 112 #[.string s, v] w fun e w' => ∃ k, e = .returned (.int .i64 k) ∧ KindR rows ps k ∧ ∃ m, w' = w.drewN m := by
  rcases hop with ⟨h1, h18, hdig, rfl⟩ | ⟨c, ds, he, h1, hdig, hsel, rfl⟩
  · -- a number
    have hz : 0 < s.size := by rw [← L_length]; omega
    have hd0 : digB (s[0].toNat : Int) = true := hdig _ (by rw [← L_get s 0 hz]; exact List.getElem_mem _)
    have Hk : Hid (KindR rows [(48, val (L s))] 2) := ⟨by omega, by omega, fun q st => kEval_leaf rows (48, val (L s)) q st rfl⟩
    have Hcut := hide hcut
    have n64 := dig_ne hd0 64 rfl
    have n33 := dig_ne hd0 33 rfl
    have n36 := dig_ne hd0 36 rfl
    have n60 := dig_ne hd0 60 rfl
    clear hcut h1 h18 hdig hn hrows hown hd0
    go_enter Tryz.func112, Tryz.ntmps112
    go_wp2_with fail
    refine (cut_any s _ hs).mono ?_
    rintro e w1 ⟨o, l, r, rfl, ⟨hco, hcl, hcr⟩, m, rfl⟩
    rw [unhide Hcut] at hco hcl hcr
    obtain rfl : r = s := L_inj hcr
    subst hco
    clear hcl hcr
    go_wp2_with fail
    go_ret
    exact ⟨2, rfl, unhide Hk, _, rfl⟩
  · have hz : 0 < s.size := by rw [← L_length, he]; simp
    have hc0 : s[0] = c := by
      have e1 := L_get? s 0 hz
      rw [he] at e1
      simpa using e1.symm
    have Hcut := hide hcut
    clear hcut
    rcases hsel with ⟨hsel, hds⟩ | ⟨hold, hds⟩
    · have hc : c.toNat = 64 ∨ c.toNat = 33 ∨ c.toNat = 35 := by simp [selB] at hsel; omega
      rcases hc with hc | hc | hc
      · have hx : (s[0].toNat : Int) = 64 := by rw [hc0]; omega
        have Hk : Hid (KindR rows [((c.toNat : Int), val ds)] 1) := by
          refine ⟨by omega, by omega, fun q st => ?_⟩
          rw [kEval_leaf rows _ q st (by show opdB (c.toNat : Int) = true; rw [hc]; rfl)]
          simp [leafK, hc]
        clear hn hrows hown hsel hds he hdig h1 hc hc0
        go_enter Tryz.func112, Tryz.ntmps112
        go_wp2_with fail
        refine (cut_any s _ hs).mono ?_
        rintro e w1 ⟨o, l, r, rfl, ⟨hco, hcl, hcr⟩, m, rfl⟩
        rw [unhide Hcut] at hco hcl hcr
        obtain rfl : r = s := L_inj hcr
        subst hco
        clear hcl hcr
        go_wp2_with fail
        go_ret
        exact ⟨1, rfl, unhide Hk, _, rfl⟩
      · have hx : (s[0].toNat : Int) = 33 := by rw [hc0]; omega
        have Hk : Hid (KindR rows [((c.toNat : Int), val ds)] 1) := by
          refine ⟨by omega, by omega, fun q st => ?_⟩
          rw [kEval_leaf rows _ q st (by show opdB (c.toNat : Int) = true; rw [hc]; rfl)]
          simp [leafK, hc]
        clear hn hrows hown hsel hds he hdig h1 hc hc0
        go_enter Tryz.func112, Tryz.ntmps112
        go_wp2_with fail
        refine (cut_any s _ hs).mono ?_
        rintro e w1 ⟨o, l, r, rfl, ⟨hco, hcl, hcr⟩, m, rfl⟩
        rw [unhide Hcut] at hco hcl hcr
        obtain rfl : r = s := L_inj hcr
        subst hco
        clear hcl hcr
        go_wp2_with fail
        go_ret
        exact ⟨1, rfl, unhide Hk, _, rfl⟩
      · have hx : (s[0].toNat : Int) = 35 := by rw [hc0]; omega
        have Hk : Hid (KindR rows [((c.toNat : Int), val ds)] 2) := by
          refine ⟨by omega, by omega, fun q st => ?_⟩
          rw [kEval_leaf rows _ q st (by show opdB (c.toNat : Int) = true; rw [hc]; rfl)]
          simp [leafK, hc, oldB]
        clear hn hrows hown hsel hds he hdig h1 hc hc0
        go_enter Tryz.func112, Tryz.ntmps112
        go_wp2_with fail
        refine (cut_any s _ hs).mono ?_
        rintro e w1 ⟨o, l, r, rfl, ⟨hco, hcl, hcr⟩, m, rfl⟩
        rw [unhide Hcut] at hco hcl hcr
        obtain rfl : r = s := L_inj hcr
        subst hco
        clear hcl hcr
        go_wp2_with fail
        go_ret
        exact ⟨2, rfl, unhide Hk, _, rfl⟩
    · obtain ⟨x, rfl⟩ : ∃ x, ds = [x] := List.length_eq_one_iff.1 hds
      have hz1 : 1 < s.size := by rw [← L_length, he]; simp
      have hx1 : s[1] = x := by
        have e1 := L_get? s 1 hz1
        rw [he] at e1
        simpa using e1.symm
      have hxd := hdig x (by simp)
      rw [← hx1] at hxd
      simp [digB] at hxd
      obtain ⟨hx48, hx57⟩ := hxd
      have hxv : val [x] = (s[1].toNat : Int) - 48 := by rw [hx1]; simp [val, valGo]
      have hi : ((s[1].toNat : Int) - (48 : Int)).toNat = s[1].toNat - 48 := by omega
      have hlt : s[1].toNat - 48 < rows.length := by
        have := hn _ (List.mem_singleton.2 rfl) hold
        simp only at this
        rw [hxv, hi] at this
        exact this
      obtain ⟨k, hk⟩ : ∃ k, rows[s[1].toNat - 48]? = some k := ⟨rows[s[1].toNat - 48], List.getElem?_eq_getElem hlt⟩
      have hkm := hrows k (List.mem_of_getElem? hk)
      have Hk : Hid (KindR rows [((c.toNat : Int), val [x])] k) := by
        refine ⟨hkm.1, hkm.2, fun q st => ?_⟩
        rw [kEval_leaf rows _ q st (by show opdB (c.toNat : Int) = true; unfold opdB; rw [hold]; simp)]
        unfold leafK
        have h64 : ((c.toNat : Int) == 64 || (c.toNat : Int) == 33) = false := by rw [old_ne hold 64 rfl, old_ne hold 33 rfl]; rfl
        rw [h64, hold]
        simp [hxv, hi, hk]
      rcases hown.2 with ⟨_, h0⟩ | ⟨g, cap, cur, rfl, hbg, hgg, hcap, hcm, hcs, htk⟩
      · omega
      have hcell := hown.cells (g := g) rfl (s[1].toNat - 48) (.int .i64 k) (by rw [List.getElem?_map, hk]; rfl)
      rw [Addr.add_lit] at hcell
      simp only [Nat.zero_add] at hcell
      have hlen : rows.length ≤ maxLen := Nat.le_trans hcap hcm
      unfold maxLen at hlen
      obtain ⟨nn, hnn⟩ : ∃ nn, rows.length = nn := ⟨_, rfl⟩
      rw [hnn] at hlt hlen ⊢
      have hlt' : (s[1].toNat : Int) - 48 < nn := by omega
      have hcc : (s[0].toNat : Int) = 36 ∨ (s[0].toNat : Int) = 60 := by rw [hc0]; simp [oldB] at hold; omega
      clear hn hrows hown hds he hdig h1 hold hc0 hx1 hxv hi hk hkm hgg hcs htk hcap hcm hbg hnn
      rcases hcc with hx | hx
      · 
        go_enter Tryz.func112, Tryz.ntmps112
        go_wp2_with fail
        refine (cut_any s _ hs).mono ?_
        rintro e w1 ⟨o, l, r, rfl, ⟨hco, hcl, hcr⟩, m, rfl⟩
        rw [unhide Hcut] at hco hcl hcr
        obtain rfl : r = s := L_inj hcr
        subst hco
        clear hcl hcr
        go_wp2_with fail
        go_ret
        exact ⟨k, rfl, unhide Hk, _, rfl⟩
      · 
        go_enter Tryz.func112, Tryz.ntmps112
        go_wp2_with fail
        refine (cut_any s _ hs).mono ?_
        rintro e w1 ⟨o, l, r, rfl, ⟨hco, hcl, hcr⟩, m, rfl⟩
        rw [unhide Hcut] at hco hcl hcr
        obtain rfl : r = s := L_inj hcr
        subst hco
        clear hcl hcr
        go_wp2_with fail
        go_ret
        exact ⟨k, rfl, unhide Hk, _, rfl⟩

/-- The contract of kind, at depth n. -/
def KindC (n : Nat) : Prop := ∀ (s : ByteArray) (ps : List Pt) (rows : List Int) (v : Value) (base : Nat) (w : World), s.size ≤ 200 → Wf n (L s) ps →
    (∀ p ∈ ps, oldB p.1 = true → p.2.toNat < rows.length) → (∀ x ∈ rows, 0 ≤ x ∧ x ≤ 2) → w.ownsRow base 3 1 v rows.length (rows.map (.int .i64)) →
    Calls Tryz.prog 112 #[.string s, v] w fun e w' => ∃ k, e = .returned (.int .i64 k) ∧ KindR rows ps k ∧ ∃ m, w' = w.drewN m

theorem KindR.neg {rows : List Int} {p : List Pt} {k : Int} (h : KindR rows p k) : KindR rows (p ++ [(126, 0)]) k :=
  ⟨h.1, h.2.1, fun q st => kEval_neg rows p q k h.2.2 st⟩
theorem KindR.bin {rows : List Int} {o : Int} (ho : opB o = true) {p q : List Pt} {a b : Int} (hp : KindR rows p a) (hq : KindR rows q b) : KindR rows (p ++ q ++ [(o, 0)]) (joinK o a b) :=
  ⟨(joinK_bd o a b ⟨hp.1, hp.2.1⟩).1, (joinK_bd o a b ⟨hp.1, hp.2.1⟩).2, fun r st => kEval_bin rows o ho p q r a b hp.2.2 hq.2.2 st⟩

set_option maxHeartbeats 1000000 in
theorem kind_one (n : Nat) (ih : KindC n) (s : ByteArray) (ps p : List Pt) (rows : List Int) (v : Value) (base : Nat) (w : World) (hs : s.size ≤ 200) (ho : (cut (L s)).1 = 40 ∨ (cut (L s)).1 = 126) (hw : Wf n (cut (L s)).2.2 p)
    (hn : ∀ x ∈ p, oldB x.1 = true → x.2.toNat < rows.length) (hrows : ∀ x ∈ rows, 0 ≤ x ∧ x ≤ 2) (hown : w.ownsRow base 3 1 v rows.length (rows.map (.int .i64))) (hps : ∀ k, KindR rows p k → KindR rows ps k) :
    Calls Tryz.prog 112 #[.string s, v] w fun e w' => ∃ k, e = .returned (.int .i64 k) ∧ KindR rows ps k ∧ ∃ m, w' = w.drewN m := by
  have Hih := hide ih
  have Hw := hide hw
  have Hn := hide hn
  have Hrows := hide hrows
  have Hown := hide hown
  have Hps := hide hps
  have Ho := hide ho
  clear ih hw hn hrows hown hps ho
  go_enter Tryz.func112, Tryz.ntmps112
  go_wp2_with fail
  refine (cut_any s _ hs).mono ?_
  rintro e w1 ⟨o, l, r, rfl, ⟨hco, hcl, hcr⟩, m, rfl⟩
  have ho := unhide Ho
  rw [hco] at ho
  have Hr : Hid (Wf n (L r) p) := by show Wf _ _ _; rw [hcr]; exact unhide Hw
  have hrs : r.size ≤ 200 := Nat.le_trans (size_of_L hcr (cut_le (L s)).2) hs
  clear hco hcl hcr Ho Hw
  rcases ho with rfl | rfl
  all_goals
    go_wp2_with fail
    refine (unhide Hih r p rows v base _ hrs (unhide Hr) (unhide Hn) (unhide Hrows) (by exact unhide Hown)).mono ?_
    rintro e w2 ⟨k, rfl, hk, m2, rfl⟩
    have Hk := hide (unhide Hps k hk)
    clear hk
    go_wp2_with fail
    go_ret
    exact ⟨k, rfl, unhide Hk, m + m2, by simp [World.drewN]⟩

set_option maxHeartbeats 1000000 in
theorem kind_two (n : Nat) (ih : KindC n) (s : ByteArray) (p q : List Pt) (rows : List Int) (v : Value) (base : Nat) (w : World) (hs : s.size ≤ 200) (ho : opB (cut (L s)).1 = true) (hp : Wf n (cut (L s)).2.1 p) (hq : Wf n (cut (L s)).2.2 q)
    (hnp : ∀ x ∈ p, oldB x.1 = true → x.2.toNat < rows.length) (hnq : ∀ x ∈ q, oldB x.1 = true → x.2.toNat < rows.length) (hrows : ∀ x ∈ rows, 0 ≤ x ∧ x ≤ 2) (hown : w.ownsRow base 3 1 v rows.length (rows.map (.int .i64))) :
    Calls Tryz.prog 112 #[.string s, v] w fun e w' => ∃ k, e = .returned (.int .i64 k) ∧ KindR rows (p ++ q ++ [((cut (L s)).1, 0)]) k ∧ ∃ m, w' = w.drewN m := by
  have Hih := hide ih
  have Hp := hide hp
  have Hq := hide hq
  have Hnp := hide hnp
  have Hnq := hide hnq
  have Hrows := hide hrows
  have Hown := hide hown
  have Ho := hide ho
  clear ih hp hq hnp hnq hrows hown ho
  obtain ⟨oo, hoo⟩ : ∃ oo, (cut (L s)).1 = oo := ⟨_, rfl⟩
  rw [hoo]
  have Hoo := hide hoo
  clear hoo
  go_enter Tryz.func112, Tryz.ntmps112
  go_wp2_with fail
  refine (cut_any s _ hs).mono ?_
  rintro e w1 ⟨o, l, r, rfl, ⟨hco, hcl, hcr⟩, m, rfl⟩
  have ho := unhide Ho
  rw [hco] at ho
  obtain rfl : oo = o := (unhide Hoo).symm.trans hco
  have Hl : Hid (Wf n (L l) p) := by show Wf _ _ _; rw [hcl]; exact unhide Hp
  have Hr : Hid (Wf n (L r) q) := by show Wf _ _ _; rw [hcr]; exact unhide Hq
  have hls : l.size ≤ 200 := Nat.le_trans (size_of_L hcl (cut_le (L s)).1) hs
  have hrs : r.size ≤ 200 := Nat.le_trans (size_of_L hcr (cut_le (L s)).2) hs
  have n40 := op_ne ho 40 rfl
  have n126 := op_ne ho 126 rfl
  have n0 : (oo != 0) = true := by simp [bne, op_ne ho 0 rfl]
  have Hoq := hide ho
  clear hco hcl hcr Ho Hp Hq ho
  go_wp2_with fail
  refine (unhide Hih l p rows v base _ hls (unhide Hl) (unhide Hnp) (unhide Hrows) (by exact unhide Hown)).mono ?_
  rintro e w2 ⟨k, rfl, hk, m2, rfl⟩
  have hk0 := hk.1
  have hk1 := hk.2.1
  have Hk := hide hk
  clear hk
  go_wp2_with fail
  refine (unhide Hih r q rows v base _ hrs (unhide Hr) (unhide Hnq) (unhide Hrows) (by exact unhide Hown)).mono ?_
  rintro e w2 ⟨k2, rfl, hk, m3, rfl⟩
  have hk20 := hk.1
  have hk21 := hk.2.1
  have Hk2 := hide hk
  clear hk
  go_wp2_with fail
  refine (joined_any oo k k2 _ (unhide Hoq) ⟨hk0, hk1⟩ ⟨hk20, hk21⟩).mono ?_
  rintro e w2 ⟨rfl, rfl⟩
  have Hj := hide ((unhide Hk).bin (unhide Hoq) (unhide Hk2))
  go_wp2_with fail
  go_ret
  exact ⟨_, rfl, unhide Hj, m + m2 + m3, by simp [World.drewN, Nat.add_assoc]⟩

theorem kind_any (n : Nat) : KindC n := by
  induction n with
  | zero => intro s ps rows v base w hs hw; exact absurd hw (by simp [Wf])
  | succ n ih =>
    intro s ps rows v base w hs hw hn hrows hown
    rcases hw with ⟨hc, hop⟩ | ⟨hc, hw⟩ | ⟨hc, p, hw, rfl⟩ | ⟨hc, p, q, hp, hq, rfl⟩
    · exact kind_leaf s ps rows v base w hs hc hop hn hrows hown
    · exact kind_one n ih s ps ps rows v base w hs (.inl hc) hw hn hrows hown (fun _ h => h)
    · exact kind_one n ih s _ p rows v base w hs (.inr hc) hw (fun x hx => hn x (by simp [hx])) hrows hown (fun _ h => h.neg)
    · exact kind_two n ih s p q rows v base w hs hc hp hq (fun x hx => hn x (by simp [hx])) (fun x hx => hn x (by simp [hx])) hrows hown

end Go.Proofs.YtdchbenfccofpaaGreatDoor
