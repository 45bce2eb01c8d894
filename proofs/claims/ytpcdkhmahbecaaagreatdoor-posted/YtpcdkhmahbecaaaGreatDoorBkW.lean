/- Steps that came in: from the reading of the argument to the lists that the walk wants. -/
import Derived.Test.YtpcdkhmahbecaaaGreatDoorBkV
import Derived.Deep.SlicePairs
import Derived.SizedLaws
import Derived.Carry
import Derived.ProofKit
import Derived.OpenShut
namespace Go.Proofs.YtpcdkhmahbecaaaGreatDoor
open Go.RowKit Db Go.ChangeShapes Go.WideShapes Go.ChangeAt Go.WideMaps Go.WideElems Go.Deep

theorem cInt : Tryz.prog.cellsOf 3 = 1 := by kernel_rfl
theorem cStr : Tryz.prog.cellsOf 9 = 1 := by kernel_rfl
theorem cLns : Tryz.prog.cellsOf 31 = 1 := by kernel_rfl
theorem cLine : Tryz.prog.cellsOf 52 = 2 := by kernel_rfl
theorem cAct : Tryz.prog.cellsOf 33 = 6 := by kernel_rfl
theorem bLine : Tryz.prog.bytesOf 52 = 16 := by kernel_rfl
theorem bAct : Tryz.prog.bytesOf 33 = 72 := by kernel_rfl
theorem reach_eq : reachBytes = 140737488351232 := rfl
theorem blk_lt {w : World} {a : Addr} {v : Value} (h : w.cell? a = some v) : a.block < w.heap.size := World.block_lt_of_cell? w a h
def intV : Value → Int
  | .int _ n => n
  | _ => 0

section
variable {H : Type} {enc : TypeId × Value → H} {W : World} {fuel : Nat} {x : DataW H × List MemPlace}
theorem open_lines {v : Value} (h : DataW.trod enc Tryz.prog W 0 (fun _ => true) true fuel 31 [v] = some x) :
    ∃ ao cap ls, v = .slice ao ls.length cap ∧ LinesAt W v ls ∧ (ls = [] ∨ ∀ k, v.ownBlock = some k → k < W.heap.size) ∧ (ls = [] ∨ ∃ el sp, x.1 = .slice el sp ∧ el.length = ls.length) := by
  rcases open_slice_pairs Tryz.underlying31 Tryz.underlying52 cLine rfl rfl cInt cInt h with ⟨hc, hx⟩ | ⟨a, len, cap, m, n, V0, V1, D0, D1, P0, P1, hc, _, hl, hm, hmm, hx, hcell⟩
  · simp only [List.cons.injEq, and_true] at hc
    subst hc
    exact ⟨none, 0, [], rfl, ⟨none, 0, rfl, .inl rfl⟩, .inl rfl, .inl rfl⟩
  · simp only [List.cons.injEq, and_true] at hc
    subst hc
    simp only [if_true] at hmm
    by_cases h0 : len = 0
    · subst h0
      exact ⟨some a, cap, [], rfl, ⟨some a, cap, rfl, .inl rfl⟩, .inl rfl, .inl rfl⟩
    · obtain ⟨b, off, spot⟩ := a
      have hspot : spot = none := by simpa [Addr.add] using World.cell?_spot (hcell 0 (by omega)).1
      subst hspot
      have hV : ∀ i, i < m → V0 i = .int .i64 (intV (V0 i)) ∧ V1 i = .int .i64 (intV (V1 i)) := by
        intro i hi
        obtain ⟨_, _, t0, t1⟩ := hcell i hi
        obtain ⟨k0, e0, _⟩ := DataW.trod_int Tryz.underlying3 t0
        obtain ⟨k1, e1, _⟩ := DataW.trod_int Tryz.underlying3 t1
        simp only [List.cons.injEq, and_true] at e0 e1
        rw [e0, e1]
        exact ⟨rfl, rfl⟩
      have hbl : b < W.heap.size := by
        have := blk_lt (hcell 0 (by omega)).1
        simpa [Addr.add] using this
      refine ⟨some ⟨b, off, none⟩, cap, (List.range len).map fun i => (intV (V0 i), intV (V1 i)), by simp, ⟨some ⟨b, off, none⟩, cap, by simp, .inr ⟨b, off, rfl, hbl, fun i l hl => ?_⟩⟩, .inr ?_, .inr ⟨_, _, by rw [hx], by simp⟩⟩
      · rw [List.getElem?_map] at hl
        have hi : i < len := by
          rcases Nat.lt_or_ge i len with hi | hi
          · exact hi
          · rw [List.getElem?_eq_none (by simpa using hi)] at hl; simp at hl
        rw [List.getElem?_range hi] at hl
        simp only [Option.map_some, Option.some.injEq] at hl
        subst hl
        have hc := hcell i (by omega)
        rw [Addr.add_lit, Addr.add_lit] at hc
        have hv := hV i (by omega)
        simp only
        rw [← hv.1, ← hv.2]
        exact ⟨hc.1, by rw [← Nat.add_assoc] at hc; exact hc.2.1⟩
      · intro k hk
        simp only [Value.ownBlock, Option.some.injEq] at hk
        omega

theorem weightsAll_mem {P : Program} {e : TypeId} : ∀ {l : List (DataW H)} {d : DataW H}, d ∈ l → ∀ n ∈ d.weights P e, n ∈ DataW.weightsAll P e l
  | d' :: r, d, hd, n, hn => by
    simp only [DataW.weightsAll, List.mem_append]
    rcases List.mem_cons.1 hd with rfl | h
    · exact Or.inl hn
    · exact Or.inr (weightsAll_mem h n hn)

instance : Inhabited ActV := ⟨⟨0, 0, 0, 0, none, 0, [], ⟨#[]⟩⟩⟩
set_option maxRecDepth 100000 in
/-- One step, from its six cells. -/
theorem open_act {cs : List Value} (h : DataW.trod enc Tryz.prog W 0 (fun _ => true) true fuel 33 cs = some x) (hcs : cs.length = 6) (hsz : ∀ n ∈ x.1.weights Tryz.prog 33, n ≤ reachBytes) :
    ∃ y : ActV, cs = [.int .i64 y.kd, .int .i64 y.bk, .int .i64 y.a, .int .i64 y.b, .slice y.ao y.ls.length y.cap, .string y.t] ∧ ActOk W W.heap.size y := by
  obtain ⟨xs, n, rfl, rfl, _, hxl, hf⟩ := DataW.trod_struct Tryz.underlying33 h
  match cs, hcs, xs, hxl with
  | [v0, v1, v2, v3, v4, v5], _, [y0, y1, y2, y3, y4, y5], _ =>
    have g0 := hf 0 _ rfl
    have g1 := hf 1 _ rfl
    have g2 := hf 2 _ rfl
    have g3 := hf 3 _ rfl
    have g4 := hf 4 _ rfl
    have g5 := hf 5 _ rfl
    simp [cInt, cStr, cLns] at g0 g1 g2 g3 g4 g5
    obtain ⟨k0, e0, _⟩ := DataW.trod_int Tryz.underlying3 g0
    obtain ⟨k1, e1, _⟩ := DataW.trod_int Tryz.underlying3 g1
    obtain ⟨k2, e2, _⟩ := DataW.trod_int Tryz.underlying3 g2
    obtain ⟨k3, e3, _⟩ := DataW.trod_int Tryz.underlying3 g3
    obtain ⟨s5, e5, _⟩ := DataW.trod_string Tryz.underlying9 g5
    obtain ⟨ao, cap, ls, e4, hL, hlo, hw⟩ := open_lines g4
    simp only [List.cons.injEq, and_true] at e0 e1 e2 e3 e5
    subst e0 e1 e2 e3 e4 e5
    refine ⟨⟨k0, k1, k2, k3, ao, cap, ls, s5⟩, rfl, hL, hlo, ?_⟩
    rcases hw with rfl | ⟨el, sp, hx4, hel⟩
    · simp
    · have := hsz ((el.length + sp.length) * 16) (by
        simp only [List.map_cons, List.map_nil, DataW.weights, Tryz.underlying33]
        simp [DataW.weightsEach, hx4, DataW.weights, Tryz.underlying31, bLine])
      rw [reach_eq] at this
      simp only
      omega

/-- All steps. -/
theorem open_acts {v : Value} {ts : List TypeId} {ds : List (DataW H)} (h : DataW.trod enc Tryz.prog W 0 (fun _ => true) true fuel 22 [v] = some x) (hsz : (DataW.weightsEach Tryz.prog ts ds).all (· ≤ reachBytes) = true) {j : Nat} (hj : ts[j]? = some 22) (hd : ds[j]? = some x.1) :
    ∃ ys : List ActV, ActsAt W W.heap.size v ys ∧ ys.length ≤ 9223372036854775800 := by
  rcases open_slice Tryz.underlying22 h with ⟨hc, hx⟩ | ⟨a, len, cap, m, n, D, Pl, hc, _, hl, hm, hmm, hx, hel⟩
  · simp only [List.cons.injEq, and_true] at hc
    subst hc
    exact ⟨[], ⟨⟨none, 0, rfl, .inl rfl⟩, by simp⟩, by simp⟩
  · simp only [List.cons.injEq, and_true] at hc
    subst hc
    simp only [if_true] at hmm
    subst hx
    have hbig := sized_slice hsz hj hd Tryz.underlying22
    rw [bAct, reach_eq] at hbig
    simp only [List.length_map, List.length_range] at hbig
    by_cases h0 : len = 0
    · subst h0
      exact ⟨[], ⟨⟨some a, cap, rfl, .inl rfl⟩, by simp⟩, by simp⟩
    · obtain ⟨b, off, spot⟩ := a
      have each : ∀ i, i < len → ∃ y : ActV, (∀ (f : Nat) (u : Value), [Value.int .i64 y.kd, .int .i64 y.bk, .int .i64 y.a, .int .i64 y.b, .slice y.ao y.ls.length y.cap, .string y.t][f]? = some u → W.cell? ((⟨b, off, spot⟩ : Addr).add (i * 6 + f)) = some u) ∧ ActOk W W.heap.size y := by
        intro i hi
        obtain ⟨cs', h1, h2⟩ := hel i (by omega)
        rw [cAct] at h1
        obtain ⟨_, hlen, hcell⟩ := World.cells?_some h1
        obtain ⟨y, rfl, hy⟩ := open_act h2 hlen (fun k hk => by
          refine of_decide_eq_true (List.all_eq_true.1 hsz _ (DataW.weights_mem_each hj hd _ ?_))
          simp only [DataW.weights, Tryz.underlying22, List.mem_cons, List.mem_append]
          exact Or.inr (Or.inl (weightsAll_mem (List.mem_map.2 ⟨i, List.mem_range.2 hi, rfl⟩) _ hk)))
        refine ⟨y, fun f u hu => ?_, hy⟩
        have hf : f < 6 := by have := (List.getElem?_eq_some_iff.1 hu).1; simpa using this
        have he := hcell f hf
        rw [hu, add_add] at he
        exact he
      have hspot : spot = none := by
        obtain ⟨y, hy, _⟩ := each 0 (by omega)
        have := World.cell?_spot (hy 0 _ rfl)
        simpa [Addr.add] using this
      subst hspot
      have hbl : b < W.heap.size := by
        obtain ⟨y, hy, _⟩ := each 0 (by omega)
        have := blk_lt (hy 0 _ rfl)
        simpa [Addr.add] using this
      obtain ⟨Y, hY⟩ := choose_lt each
      refine ⟨(List.range len).map Y, ⟨⟨some ⟨b, off, none⟩, cap, by simp, .inr ⟨b, off, rfl, hbl, fun i y hy => ?_⟩⟩, fun y hy => ?_⟩, by simp; omega⟩
      · rw [List.getElem?_map] at hy
        have hi : i < len := by
          rcases Nat.lt_or_ge i len with hi | hi
          · exact hi
          · rw [List.getElem?_eq_none (by simpa using hi)] at hy; simp at hy
        rw [List.getElem?_range hi] at hy
        simp only [Option.map_some, Option.some.injEq] at hy
        subst hy
        have hc := (hY i hi).1
        refine ⟨?_, ?_, ?_, ?_, ?_, ?_⟩
        · have := hc 0 _ rfl; rw [Addr.add_lit] at this; simpa [Nat.add_assoc] using this
        · have := hc 1 _ rfl; rw [Addr.add_lit] at this; simpa [Nat.add_assoc] using this
        · have := hc 2 _ rfl; rw [Addr.add_lit] at this; simpa [Nat.add_assoc] using this
        · have := hc 3 _ rfl; rw [Addr.add_lit] at this; simpa [Nat.add_assoc] using this
        · have := hc 4 _ rfl; rw [Addr.add_lit] at this; simpa [Nat.add_assoc] using this
        · have := hc 5 _ rfl; rw [Addr.add_lit] at this; simpa [Nat.add_assoc] using this
      · obtain ⟨i, hi, rfl⟩ := List.mem_map.1 hy
        exact (hY i (List.mem_range.1 hi)).2
end
end Go.Proofs.YtpcdkhmahbecaaaGreatDoor
