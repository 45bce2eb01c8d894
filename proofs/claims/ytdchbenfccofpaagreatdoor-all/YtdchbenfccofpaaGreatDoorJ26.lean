/- Own texts of the theorem in YtdchbenfccofpaaGreatDoorWAlY, part 26. -/
import Derived.Test.YtdchbenfccofpaaGreatDoorJ25
import Derived.Test.YtdchbenfccofpaaGreatDoorJ07
import Derived.Test.YtdchbenfccofpaaGreatDoorJ03
import Derived.Deep.SlicePairs
import Derived.SizedLaws
import Derived.Carry
import Derived.ProofKit
import Derived.OpenShut
import Derived.Test.YtdchbenfccofpaaGreatDoorRows
set_option maxRecDepth 100000
set_option maxHeartbeats 8000000
namespace Go.Proofs.YtdchbenfccofpaaGreatDoor
open Go.RowKit Db
def actN : ActV := ⟨7, 0, 0, 0, none, 0, [], ⟨#[]⟩⟩
theorem actN_ok (w : World) (B : Nat) : ActOk w B actN := ⟨⟨none, 0, rfl, .inl rfl⟩, .inl rfl, Nat.zero_le _, Nat.zero_le _⟩
theorem all_walk (v : Value) (xs : List ActV) (w : World) (h : ActsAt w w.heap.size v xs) (hr : ∀ x ∈ xs, -9223372036854775808 ≤ x.bk ∧ x.bk ≤ 9223372036854775807) (hlen : xs.length ≤ 1999999999000) (ht : Tab w) :
  Calls Tryz.prog 7 #[v] w fun e w' => e = .returned (.bool true) ∧ Below w.heap.size w w' := by
 obtain ⟨ao, cap, rfl⟩ : ∃ ao cap, v = .slice ao xs.length cap := by obtain ⟨⟨ao, cap, rfl, _⟩, _⟩ := h; exact ⟨ao, cap, rfl⟩
 have H := hI h
 have HR := hI hr
 have Ht := hI ht
 obtain ⟨B, hB⟩ : ∃ B, w.heap.size = B := ⟨_, rfl⟩
 obtain ⟨W, hW⟩ : ∃ W, w.alloc (.cells #[.slice none 0 0, .slice none 0 0] 48) = W := ⟨_, rfl⟩
 have HX : Hid (Blk W B #[.slice none 0 0, .slice none 0 0] 48) := by rw [← hW, ← hB]; exact Blk.new _ _ _
 have Hb0 : Hid (Below w.heap.size w W) := by rw [← hW]; exact (Below.refl _ _).alloc (Nat.le_refl _) _
 have H0 : Wld W B B (.slice none 0 0) (.slice none 0 0) [] [] 0 := ⟨HX.u, Nat.le_refl _, World.ownsRow_nil _ _ _ _, World.ownsRow_nil _ _ _ _, by simp, by simp, by simp, by simp, by simp, by simp, by simp, by simp, by simp⟩
 have Hst := hI (step_any B B _ _ _ _ 0 actN W H0 (by omega) (actN_ok _ _) (by decide) (by decide) (Ht.u.below Hb0.u))
 have hval : actN.val = .agg #[.int .i64 7, .int .i64 0, .int .i64 0, .int .i64 0, .slice none 0 0, .string ⟨#[]⟩] := rfl
 rw [hval] at Hst
 rw [hB] at H Hb0
 clear h hr ht H0 hval
 go_enter Tryz.func7, Tryz.ntmps7
 go_wp2_with fail
 try rw [hW]
 try rw [hB]
 clear hW
 refine Hst.u.mono ?_
 rintro e w1 ⟨rfl, h1, hb1⟩
 have H1 := hI h1
 have Hb1 : Hid (Below B w w1) := Hb0.u.trans hb1
 clear h1 hb1 Hst HX
 go_wp2_with fail
 go_loopg [4, 5] xs.length (fun m vok vi wr => ∃ j : Nat, j ≤ xs.length ∧ m = xs.length - j ∧ vok = .bool true ∧ vi = .int .i64 j ∧ Hid (∃ vb vc ps cs, Wld wr B B vb vc ps cs (j + 1)) ∧ Hid (Below B w wr))
 case atStart => exact ⟨0, by omega, rfl, rfl, rfl, H1.u, Hb1.u⟩
 case round =>
  obtain ⟨j, hj, rfl, rfl, rfl, HW, Hb⟩ := hrel
  by_cases hlt : j < xs.length
  ·obtain ⟨x, hx⟩ : ∃ x, xs[j]? = some x := ⟨xs[j], List.getElem?_eq_getElem hlt⟩
   have hat := H.u.below Hb.u
   have hok := hat.oks x (List.mem_of_getElem? hx)
   have hrg := HR.u x (List.mem_of_getElem? hx)
   obtain ⟨⟨ao', cap', e1, hr⟩, _⟩ := hat
   simp only [Value.slice.injEq, true_and] at e1
   obtain ⟨rfl, rfl⟩ := e1
   have hr2 := hr.resolve_left (by rintro rfl; simp at hx)
   obtain ⟨b, off, rfl, hbl, hc⟩ := hr2
   obtain ⟨d0, d1, d2, d3, d4, d5⟩ := hc j x hx
   obtain ⟨vb, vc, ps, cs, hw⟩ := HW.u
   have Hst := hI (step_any B B _ _ _ _ (j + 1) x wr hw (by omega) hok hrg.1 hrg.2 (Ht.u.below (by rw [hB]; exact Hb.u)))
   have hval : x.val = .agg #[.int .i64 x.kd, .int .i64 x.bk, .int .i64 x.a, .int .i64 x.b, .slice x.ao x.ls.length x.cap, .string x.t] := rfl
   rw [hval] at Hst
   have hjj : (j : Int) < (xs.length : Int) := by omega
   clear hr hc hx hok hrg hw hval
   go_wp2_with fail
   refine Hst.u.mono ?_
   rintro e w2 ⟨rfl, h2, hb2⟩
   have H2 := hI h2
   have Hb2 : Hid (Below B w w2) := Hb.u.trans hb2
   clear h2 hb2
   go_wp2_with fail
   go_roundg (xs.length - (j + 1))
   case measure => omega
   case rel => exact ⟨j + 1, by omega, rfl, rfl, by go_num, H2.u, Hb2.u⟩
  ·obtain rfl : j = xs.length := by omega
   obtain ⟨vb, vc, ps, cs, hw⟩ := HW.u
   obtain ⟨ab, cb, rfl⟩ := oForm hw.books
   have hpl := hw.pl
   have hBs : B ≤ wr.heap.size := by have := hw.lo; have := hw.blk.lt; omega
   have HL := hI hw
   clear hw
   go_wp2_with fail
   go_loopg [4, 6] ps.length (fun m vok vi wx => ∃ i : Nat, i ≤ ps.length ∧ m = ps.length - i ∧ vok = .bool true ∧ vi = .int .i64 i ∧ Hid (Below wr.heap.size wr wx))
   case atStart => exact ⟨0, by omega, rfl, rfl, rfl, Below.refl _ _⟩
   case round =>
    obtain ⟨i, hi, rfl, rfl, rfl, Hc⟩ := hrel
    have h3 := HL.u.kept Hc.u
    have c0 := h3.blk.cell 0
    have l0 := h3.blk.lt
    simp only [List.getElem?_toArray, List.getElem?_cons_zero] at c0
    by_cases hlt2 : i < ps.length
    ·obtain ⟨y, hy⟩ : ∃ y, ps[i]? = some y := ⟨ps[i], List.getElem?_eq_getElem hlt2⟩
     obtain ⟨gb, _, e1, hgb, hgb'⟩ := oSome h3.books (by omega)
     simp only [Value.slice.injEq, true_and] at e1
     obtain ⟨rfl, rfl⟩ := e1
     have d1 := oCell h3.books (j := i) (u := .pointer (some ⟨y.q, 0, none⟩)) (by rw [List.getElem?_map, hy]; rfl)
     have HP := hI (fun (wx : World) (hb : Below wr.heap.size wr wx) => ((h3.prs y (List.mem_of_getElem? hy)).kept hb))
     have HT := hI (((Ht.u.below (by rw [hB]; exact Hb.u)).below Hc.u))
     have HB3 := hI h3.blk
     have HO3 := hI h3.books
     obtain ⟨yq, yD, ys, yn⟩ := y
     simp only at d1 HP
     clear h3 hy
     go_wp2_with fail
     refine (toldD_any yD B yq ys yn wr (HP.u wr (Below.refl _ _)) HT.u).mono ?_
     rintro e w5 ⟨rfl, hb5⟩
     have Hb5 := hI hb5
     have c0 := (HB3.u.kept hb5).cell 0
     have l0 := (HB3.u.kept hb5).lt
     simp only [List.getElem?_toArray, List.getElem?_cons_zero] at c0
     have d1 := (hb5.cell (p := ⟨gb, i, none⟩) (by exact hgb')).trans d1
     have hgb5 : gb < w5.heap.size := Nat.lt_of_lt_of_le hgb' hb5.size
     clear hb5
     go_wp2_with fail
     refine (looksD_any yD B yq ys yn w5 (HP.u w5 Hb5.u)).mono ?_
     rintro e w6 ⟨rfl, hb6⟩
     have Hb6 := hI (Hb5.u.then hb6)
     clear hb6
     go_wp2_with fail
     go_roundg (ps.length - (i + 1))
     case measure => omega
     case rel => exact ⟨i + 1, by omega, rfl, rfl, by go_num, Hc.u.then Hb6.u⟩
    ·obtain rfl : i = ps.length := by omega
     clear h3
     go_wp2_with fail
     go_ret
     exact ⟨rfl, by rw [hB]; exact Hb.u.trans (Hc.u.mono hBs)⟩
end Go.Proofs.YtdchbenfccofpaaGreatDoor
namespace Go.Proofs.YtdchbenfccofpaaGreatDoor
open Go.RowKit Db Go.ChangeShapes Go.WideShapes Go.ChangeAt Go.WideMaps Go.WideElems Go.Deep
theorem cInt : Tryz.prog.cellsOf 3 = 1 := by kernel_rfl
theorem cStr : Tryz.prog.cellsOf 9 = 1 := by kernel_rfl
theorem cLns : Tryz.prog.cellsOf 31 = 1 := by kernel_rfl
theorem cLine : Tryz.prog.cellsOf 89 = 2 := by kernel_rfl
theorem bLine : Tryz.prog.bytesOf 89 = 16 := by kernel_rfl
theorem reach_eq : reachBytes = 140737488351232 := rfl
theorem blk_lt {w : World} {a : Addr} {v : Value} (h : w.cell? a = some v) : a.block < w.heap.size := World.block_lt_of_cell? w a h
def intV : Value → Int
 | .int _ n => n
 | _ => 0
section
variable {H : Type} {enc : TypeId × Value → H} {W : World} {fuel : Nat} {x : DataW H × List MemPlace}
theorem open_lines {v : Value} (h : DataW.trod enc Tryz.prog W 0 (fun _ => true) true fuel 31 [v] = some x) :
  ∃ ao cap ls, v = .slice ao ls.length cap ∧ LinesAt W v ls ∧ (ls = [] ∨ ∀ k, v.ownBlock = some k → k < W.heap.size) ∧ (ls = [] ∨ ∃ el sp, x.1 = .slice el sp ∧ el.length = ls.length) := by
 rcases open_slice_pairs Tryz.underlying31 Tryz.underlying89 cLine rfl rfl cInt cInt h with ⟨hc, hx⟩ | ⟨a, len, cap, m, n, V0, V1, D0, D1, P0, P1, hc, _, hl, hm, hmm, hx, hcell⟩
 ·simp only [List.cons.injEq, and_true] at hc
  subst hc
  exact ⟨none, 0, [], rfl, ⟨none, 0, rfl, .inl rfl⟩, .inl rfl, .inl rfl⟩
 ·simp only [List.cons.injEq, and_true] at hc
  subst hc
  simp only [if_true] at hmm
  by_cases h0 : len = 0
  ·subst h0
   exact ⟨some a, cap, [], rfl, ⟨some a, cap, rfl, .inl rfl⟩, .inl rfl, .inl rfl⟩
  ·obtain ⟨b, off, spot⟩ := a
   have hspot : spot = none := by simpa [Addr.add] using World.cell?_spot (hcell 0 (by omega)).1
   subst hspot
   have hV : ∀ i, i < m → V0 i = .int .i64 (intV (V0 i)) ∧ V1 i = .int .i64 (intV (V1 i)) := by
    intro i hi
    obtain ⟨_, _, t0, t1⟩ := hcell i hi
    obtain ⟨k0, e0, _⟩ := DataW.trod_int Tryz.underlying3 t0
    obtain ⟨k1, e1, _⟩ := DataW.trod_int Tryz.underlying3 t1
    simp only [List.cons.injEq, and_true] at e0 e1
    rw [e0, e1]
    exact ⟨rfl, rfl⟩
   have hbl : b < W.heap.size := by
    have := blk_lt (hcell 0 (by omega)).1
    simpa [Addr.add] using this
   refine ⟨some ⟨b, off, none⟩, cap, (List.range len).map fun i => (intV (V0 i), intV (V1 i)), by simp, ⟨some ⟨b, off, none⟩, cap, by simp, .inr ⟨b, off, rfl, hbl, fun i l hl => ?_⟩⟩, .inr ?_, .inr ⟨_, _, by rw [hx], by simp⟩⟩
   ·rw [List.getElem?_map] at hl
    have hi : i < len := by
     rcases Nat.lt_or_ge i len with hi | hi
     ·exact hi
     ·rw [List.getElem?_eq_none (by simpa using hi)] at hl; simp at hl
    rw [List.getElem?_range hi] at hl
    simp only [Option.map_some, Option.some.injEq] at hl
    subst hl
    have hc := hcell i (by omega)
    rw [Addr.add_lit, Addr.add_lit] at hc
    have hv := hV i (by omega)
    simp only
    rw [← hv.1, ← hv.2]
    exact ⟨hc.1, by rw [← Nat.add_assoc] at hc; exact hc.2.1⟩
   ·intro k hk
    simp only [Value.ownBlock, Option.some.injEq] at hk
    omega
theorem weightsAll_mem {P : Program} {e : TypeId} : ∀ {l : List (DataW H)} {d : DataW H}, d ∈ l → ∀ n ∈ d.weights P e, n ∈ DataW.weightsAll P e l
 | d' :: r, d, hd, n, hn => by
  simp only [DataW.weightsAll, List.mem_append]
  rcases List.mem_cons.1 hd with rfl | h
  ·exact Or.inl hn
  ·exact Or.inr (weightsAll_mem h n hn)
end
theorem cAct : Tryz.prog.cellsOf 33 = 6 := by kernel_rfl
theorem bAct : Tryz.prog.bytesOf 33 = 72 := by kernel_rfl
section
variable {H : Type} {enc : TypeId × Value → H} {W : World} {fuel : Nat} {x : DataW H × List MemPlace}
instance : Inhabited ActV := ⟨⟨0, 0, 0, 0, none, 0, [], ⟨#[]⟩⟩⟩
end
theorem bulk_one {H : Type} (d : DataW H) : 1 ≤ Rows.uptoBulk d := by
 cases d with
 | lit l => cases l <;> simp [Rows.uptoBulk]
 | nil => simp [Rows.uptoBulk]
 | ptr d => simp [Rows.uptoBulk]
 | slice elems spare => simp [Rows.uptoBulk]
 | agg parts => simp [Rows.uptoBulk]
 | iface t d => simp [Rows.uptoBulk]
 | map entries => simp [Rows.uptoBulk]
 | held h => simp [Rows.uptoBulk]
theorem bulk_len {H : Type} (l : List (DataW H)) : l.length ≤ Rows.uptoBulkAll l := by
 induction l with
 | nil => simp [Rows.uptoBulkAll]
 | cons x r ih => have := bulk_one x; simp only [Rows.uptoBulkAll, List.length_cons]; omega
section
variable {H : Type} {enc : TypeId × Value → H} {W : World} {fuel : Nat} {x : DataW H × List MemPlace}
theorem int_range {k : Int} (h : (Lit.int .i64 k).wf = true) : -9223372036854775808 ≤ k ∧ k ≤ 9223372036854775807 := by
 simp only [Lit.wf, Bool.and_eq_true, decide_eq_true_eq] at h
 have e1 : IntKind.i64.min = -9223372036854775808 := by decide
 have e2 : IntKind.i64.max = 9223372036854775807 := by decide
 omega
theorem open_actR {cs : List Value} (h : DataW.trod enc Tryz.prog W 0 (fun _ => true) true fuel 33 cs = some x) (hcs : cs.length = 6) (hsz : ∀ n ∈ x.1.weights Tryz.prog 33, n ≤ reachBytes) :
   ∃ y : ActV, cs = [.int .i64 y.kd, .int .i64 y.bk, .int .i64 y.a, .int .i64 y.b, .slice y.ao y.ls.length y.cap, .string y.t] ∧ ActOk W W.heap.size y ∧ -9223372036854775808 ≤ y.bk ∧ y.bk ≤ 9223372036854775807 := by
 obtain ⟨xs, n, rfl, rfl, _, hxl, hf⟩ := DataW.trod_struct Tryz.underlying33 h
 match cs, hcs, xs, hxl with
 | [v0, v1, v2, v3, v4, v5], _, [y0, y1, y2, y3, y4, y5], _ =>
   have g0 := hf 0 _ rfl
   have g1 := hf 1 _ rfl
   have g2 := hf 2 _ rfl
   have g3 := hf 3 _ rfl
   have g4 := hf 4 _ rfl
   have g5 := hf 5 _ rfl
   simp [cInt, cStr, cLns] at g0 g1 g2 g3 g4 g5
   obtain ⟨k0, e0, _⟩ := DataW.trod_int Tryz.underlying3 g0
   obtain ⟨k1, e1, _, r1⟩ := DataW.trod_int Tryz.underlying3 g1
   obtain ⟨k2, e2, _⟩ := DataW.trod_int Tryz.underlying3 g2
   obtain ⟨k3, e3, _⟩ := DataW.trod_int Tryz.underlying3 g3
   obtain ⟨s5, e5, _, hs5⟩ := DataW.trod_string Tryz.underlying9 g5
   obtain ⟨ao, cap, ls, e4, hL, hlo, hw⟩ := open_lines g4
   simp only [List.cons.injEq, and_true] at e0 e1 e2 e3 e5
   subst e0 e1 e2 e3 e4 e5
   have r2 : -9223372036854775808 ≤ k1 ∧ k1 ≤ 9223372036854775807 := int_range r1
   refine ⟨⟨k0, k1, k2, k3, ao, cap, ls, s5⟩, rfl, ⟨hL, hlo, ?_, hs5⟩, r2.1, r2.2⟩
   rcases hw with rfl | ⟨el, sp, hx4, hel⟩
   · simp
   · have := hsz ((el.length + sp.length) * 16) (by
       simp only [List.map_cons, List.map_nil, DataW.weights, Tryz.underlying33]
       simp [DataW.weightsEach, hx4, DataW.weights, Tryz.underlying31, bLine])
     rw [reach_eq] at this
     simp only
     omega
theorem open_actsR {v : Value} {ts : List TypeId} {ds : List (DataW H)} (h : DataW.trod enc Tryz.prog W 0 (fun _ => true) true fuel 22 [v] = some x) (hsz : (DataW.weightsEach Tryz.prog ts ds).all (· ≤ reachBytes) = true) {j : Nat} (hj : ts[j]? = some 22) (hd : ds[j]? = some x.1) :
  ∃ ys : List ActV, ActsAt W W.heap.size v ys ∧ (∀ y ∈ ys, -9223372036854775808 ≤ y.bk ∧ y.bk ≤ 9223372036854775807) ∧ ys.length ≤ Rows.uptoBulk x.1 ∧ ys.length ≤ 1999999999000 := by
 rcases open_slice Tryz.underlying22 h with ⟨hc, hx⟩ | ⟨a, len, cap, m, n, D, Pl, hc, _, hl, hm, hmm, hx, hel⟩
 ·simp only [List.cons.injEq, and_true] at hc
  subst hc
  exact ⟨[], ⟨⟨none, 0, rfl, .inl rfl⟩, by simp⟩, by simp, by simp, by simp⟩
 ·simp only [List.cons.injEq, and_true] at hc
  subst hc
  simp only [if_true] at hmm
  subst hx
  have hbig := sized_slice hsz hj hd Tryz.underlying22
  rw [bAct, reach_eq] at hbig
  simp only [List.length_map, List.length_range] at hbig
  by_cases h0 : len = 0
  ·subst h0
   exact ⟨[], ⟨⟨some a, cap, rfl, .inl rfl⟩, by simp⟩, by simp, by simp, by simp⟩
  ·obtain ⟨b, off, spot⟩ := a
   have each : ∀ i, i < len → ∃ y : ActV, (∀ (f : Nat) (u : Value), [Value.int .i64 y.kd, .int .i64 y.bk, .int .i64 y.a, .int .i64 y.b, .slice y.ao y.ls.length y.cap, .string y.t][f]? = some u → W.cell? ((⟨b, off, spot⟩ : Addr).add (i * 6 + f)) = some u) ∧ ActOk W W.heap.size y ∧ -9223372036854775808 ≤ y.bk ∧ y.bk ≤ 9223372036854775807 := by
    intro i hi
    obtain ⟨cs', h1, h2⟩ := hel i (by omega)
    rw [cAct] at h1
    obtain ⟨_, hlen, hcell⟩ := World.cells?_some h1
    obtain ⟨y, rfl, hy⟩ := open_actR h2 hlen (fun k hk => by
     refine of_decide_eq_true (List.all_eq_true.1 hsz _ (DataW.weights_mem_each hj hd _ ?_))
     simp only [DataW.weights, Tryz.underlying22, List.mem_cons, List.mem_append]
     exact Or.inr (Or.inl (weightsAll_mem (List.mem_map.2 ⟨i, List.mem_range.2 hi, rfl⟩) _ hk)))
    refine ⟨y, fun f u hu => ?_, hy⟩
    have hf : f < 6 := by have := (List.getElem?_eq_some_iff.1 hu).1; simpa using this
    have he := hcell f hf
    rw [hu, add_add] at he
    exact he
   have hspot : spot = none := by
    obtain ⟨y, hy, _⟩ := each 0 (by omega)
    have := World.cell?_spot (hy 0 _ rfl)
    simpa [Addr.add] using this
   subst hspot
   have hbl : b < W.heap.size := by
    obtain ⟨y, hy, _⟩ := each 0 (by omega)
    have := blk_lt (hy 0 _ rfl)
    simpa [Addr.add] using this
   obtain ⟨Y, hY⟩ := choose_lt each
   refine ⟨(List.range len).map Y, ⟨⟨some ⟨b, off, none⟩, cap, by simp, .inr ⟨b, off, rfl, hbl, fun i y hy => ?_⟩⟩, fun y hy => ?_⟩, fun y hy => ?_, ?_, by simp; omega⟩
   ·rw [List.getElem?_map] at hy
    have hi : i < len := by
     rcases Nat.lt_or_ge i len with hi | hi
     ·exact hi
     ·rw [List.getElem?_eq_none (by simpa using hi)] at hy; simp at hy
    rw [List.getElem?_range hi] at hy
    simp only [Option.map_some, Option.some.injEq] at hy
    subst hy
    have hc := (hY i hi).1
    refine ⟨?_, ?_, ?_, ?_, ?_, ?_⟩
    ·have := hc 0 _ rfl; rw [Addr.add_lit] at this; simpa [Nat.add_assoc] using this
    ·have := hc 1 _ rfl; rw [Addr.add_lit] at this; simpa [Nat.add_assoc] using this
    ·have := hc 2 _ rfl; rw [Addr.add_lit] at this; simpa [Nat.add_assoc] using this
    ·have := hc 3 _ rfl; rw [Addr.add_lit] at this; simpa [Nat.add_assoc] using this
    ·have := hc 4 _ rfl; rw [Addr.add_lit] at this; simpa [Nat.add_assoc] using this
    ·have := hc 5 _ rfl; rw [Addr.add_lit] at this; simpa [Nat.add_assoc] using this
   ·obtain ⟨i, hi, rfl⟩ := List.mem_map.1 hy
    exact (hY i (List.mem_range.1 hi)).2.1
   ·obtain ⟨i, hi, rfl⟩ := List.mem_map.1 hy
    exact (hY i (List.mem_range.1 hi)).2.2
   ·have hb := bulk_len ((List.range len).map D)
    simp only [List.length_map, List.length_range] at hb ⊢
    simp only [Rows.uptoBulk]
    omega
end
end Go.Proofs.YtdchbenfccofpaaGreatDoor
