/- Cells of a report as numbers: grid. A record: what the lines of an account sum to in a period, and how many they are. The program's book: Writes. A record and a book: quiet. Refused: what a step changes is what it writes. Tree: the texts that the law asks, and what Report answers. Tree: the law's walk. Joined: periods add up; the texts that the law asks, and what Report answers. -/
import Derived.Test.YtdchbenfccofpaaGreatDoorJ17
import Derived.Test.YtdchbenfccofpaaGreatDoorJ19
import Derived.Deep.LoopGhost
import Derived.Test.YtdchbenfccofpaaGreatDoorJ06
import Derived.Laws.AppendOwnNone
import Derived.Test.YtdchbenfccofpaaGreatDoorJ08
import Derived.Maps.AppendAt
namespace Db

theorem split_jn (sep : UInt8) : ∀ (l : List (List UInt8)), l ≠ [] → (∀ x ∈ l, ∀ c ∈ x, c ≠ sep) → split (jn sep l) sep = l := by
  intro l
  induction l with
  | nil => intro h; exact absurd rfl h
  | cons x r ih =>
    intro _ hx
    cases r with
    | nil => simp [jn]; exact split_one sep x (hx x (by simp))
    | cons y t =>
      have e : jn sep (x :: y :: t) = x ++ sep :: jn sep (y :: t) := by simp [jn]
      rw [e, split_cons sep x _ (hx x (by simp)), ih (by simp) (fun z hz => hx z (by simp [hz]))]
end Db
namespace Go.Proofs.YtdchbenfccofpaaGreatDoor
open Go.RowKit Db

theorem info_ints : (Tryz.prog.info? 28).map (fun i => (i.zero, i.size, i.bytes)) = some (some (.slice none 0 0), 1, 24) := by kernel_rfl
/-- A list of lists of numbers, at v. -/
def GrAt (w : World) (B : Nat) (v : Value) (g : List (List Int)) : Prop :=
  ∃ vs : List Value, w.ownsRow B 28 1 v vs.length vs ∧ vs.length = g.length ∧ ∀ (i : Nat) u r, vs[i]? = some u → g[i]? = some r → w.ownsRow B 3 1 u r.length (r.map fun n => .int .i64 n)
theorem GrAt.kept {w w' : World} {B : Nat} {v : Value} {g : List (List Int)} (h : GrAt w B v g) (hb : Below w.heap.size w w') : GrAt w' B v g := by
  obtain ⟨vs, h1, h2, h3⟩ := h
  exact ⟨vs, ownsRow_below h1 hb, h2, fun i u r hu hr => ownsRow_below (h3 i u r hu hr) hb⟩
/-- Where a number of it is. -/
theorem GrAt.cell {w : World} {B : Nat} {v : Value} {g : List (List Int)} (h : GrAt w B v g) {i k : Nat} {r : List Int} {n : Int} (hr : g[i]? = some r) (hn : r[k]? = some n) :
    ∃ b cap b2 cap2, v = .slice (some ⟨b, 0, none⟩) g.length cap ∧ b < w.heap.size ∧ w.cell? ⟨b, i, none⟩ = some (.slice (some ⟨b2, 0, none⟩) r.length cap2) ∧ b2 < w.heap.size ∧ w.cell? ⟨b2, k, none⟩ = some (.int .i64 n) := by
  obtain ⟨vs, h1, h2, h3⟩ := h
  have hi : i < g.length := (List.getElem?_eq_some_iff.1 hr).1
  have hk : k < r.length := (List.getElem?_eq_some_iff.1 hn).1
  obtain ⟨u, hu⟩ : ∃ u, vs[i]? = some u := ⟨vs[i]'(by omega), List.getElem?_eq_getElem _⟩
  have h4 := h3 i u r hu hr
  obtain ⟨b, cap, rfl, hb, hb'⟩ := ownsRow_some h1 (by omega)
  obtain ⟨b2, cap2, rfl, hb2, hb2'⟩ := ownsRow_some h4 (by omega)
  exact ⟨b, cap, b2, cap2, by rw [h2], hb', ownsRow_cell h1 hu, hb2', ownsRow_cell h4 (by rw [List.getElem?_map, hn]; rfl)⟩
def CellN (c : Cl) : Prop := c.2 = 0 ∧ -1000000000000000000 < c.1 ∧ c.1 < 1000000000000000000
theorem itoa_parts {n : Int} (h0 : -1000000000000000000 < n) (h1 : n < 1000000000000000000) : ∃ (neg : Bool) (ds : List UInt8), Lib.itoa n = (if neg then [45] else []) ++ ds ∧ (∀ c ∈ ds, digB c.toNat = true) ∧ 1 ≤ ds.length ∧ ds.length ≤ 18 ∧ (if neg then - val ds else val ds) = n := by
  have key : ∀ k : Nat, k < 1000000000000000000 → (Lib.decDigits k).length ≤ 18 := by
    intro k hk
    by_cases h : 1 ≤ k
    · have := ((dec_facts k).2.2.2 h).1
      rcases Nat.lt_or_ge 18 (Lib.decDigits k).length with h2 | h2
      · exfalso
        have h3 : 10 ^ 18 ≤ 10 ^ ((Lib.decDigits k).length - 1) := Nat.pow_le_pow_right (by omega) (by omega)
        have : (10 : Nat) ^ 18 = 1000000000000000000 := by decide
        omega
      · exact h2
    · obtain rfl : k = 0 := by omega
      rw [Lib.decDigits_one (by omega)]; simp
  by_cases hn : n < 0
  · have hi : Lib.itoa n = 45 :: Lib.decDigits n.natAbs := by unfold Lib.itoa; rw [if_pos hn]
    have hf := dec_facts n.natAbs
    refine ⟨true, Lib.decDigits n.natAbs, by rw [hi]; rfl, hf.1, ?_, key _ (by omega), ?_⟩
    · have := List.length_pos_iff.2 hf.2.2.1; omega
    · rw [if_pos rfl, hf.2.1]; omega
  · have hi : Lib.itoa n = Lib.decDigits n.toNat := by unfold Lib.itoa; rw [if_neg hn]
    have hf := dec_facts n.toNat
    refine ⟨false, Lib.decDigits n.toNat, by rw [hi]; rfl, hf.1, ?_, key _ (by omega), ?_⟩
    · have := List.length_pos_iff.2 hf.2.2.1; omega
    · rw [if_neg (by simp), hf.2.1]; omega
theorem cellT_ne {c : Cl} (h : CellN c) (sep : UInt8) (hs : digB sep.toNat = false) (h45 : ¬ sep = 45) : ∀ x ∈ cellT c, x ≠ sep := by
  unfold cellT
  rw [if_pos (by simp [h.1])]
  obtain ⟨neg, ds, e, hd, _⟩ := itoa_parts h.2.1 h.2.2
  rw [e]
  intro x hx
  rw [List.mem_append] at hx
  rcases hx with hx | hx
  · cases neg with
    | true => simp at hx; subst hx; exact fun e => h45 e.symm
    | false => simp at hx
  · intro e
    have := hd x hx
    rw [e, hs] at this
    cases this
theorem jn_mem {sep : UInt8} {l : List (List UInt8)} {c : UInt8} (h : c ∈ jn sep l) : c = sep ∨ ∃ x ∈ l, c ∈ x := by
  cases l with
  | nil => simp [jn] at h
  | cons x r =>
    simp only [jn, List.mem_append, List.mem_flatMap] at h
    rcases h with h | ⟨y, hy, h⟩
    · exact .inr ⟨x, by simp, h⟩
    · simp only [List.mem_cons] at h
      rcases h with h | h
      · exact .inl h
      · exact .inr ⟨y, by simp [hy], h⟩
/-- The cells' texts, by splitting. -/
theorem rpt_split {cells : List (List Cl)} (h0 : cells ≠ []) (hr : ∀ row ∈ cells, row ≠ [] ∧ ∀ c ∈ row, CellN c) : split (rptT cells) 59 = rptX cells ∧ ∀ row ∈ cells, split (jn 44 (rowX row)) 44 = rowX row := by
  constructor
  · unfold rptT
    refine split_jn 59 _ (by unfold rptX; simpa using h0) ?_
    intro x hx c hc
    unfold rptX at hx
    obtain ⟨row, hrow, rfl⟩ := List.mem_map.1 hx
    rcases jn_mem hc with rfl | ⟨y, hy, hcy⟩
    · decide
    · unfold rowX at hy
      obtain ⟨cl, hcl, rfl⟩ := List.mem_map.1 hy
      exact cellT_ne ((hr row hrow).2 cl hcl) 59 rfl (by decide) c hcy
  · intro row hrow
    refine split_jn 44 _ (by unfold rowX; simpa using (hr row hrow).1) ?_
    intro x hx c hc
    unfold rowX at hx
    obtain ⟨cl, hcl, rfl⟩ := List.mem_map.1 hx
    exact cellT_ne ((hr row hrow).2 cl hcl) 44 rfl (by decide) c hc

set_option maxRecDepth 100000 in
set_option maxHeartbeats 4000000 in
theorem grid_any (Bl p : Nat) (b : Bk) (t : ByteArray) (cells : List (List Cl)) (n m : Nat) (w : World) (hl : Led w Bl p b) (hm : t.size ≤ maxLen) (ht : Tab w) (hrep : ∀ u er, RepIs b t u er → er = 0 ∧ L u = rptT cells) (hlen : (rptT cells).length ≤ 50000)
    (hn : cells.length = n) (hn0 : 0 < n) (hn8 : n ≤ 8) (hm0 : 0 < m) (hm4 : m ≤ 4) (hrow : ∀ row ∈ cells, row.length = m ∧ ∀ c ∈ row, CellN c) :
    Calls Tryz.prog 30 #[.pointer (some ⟨p, 0, none⟩), .string t, .int .i64 (n : Int), .int .i64 (m : Int)] w fun e w' => ∃ v, e = .returned (.tuple #[v, .bool true]) ∧ GrAt w' w.heap.size v (cells.map fun row => row.map (·.1)) ∧ Below w.heap.size w w' := by
  obtain ⟨ii, hi, hz0, hz1, hz2⟩ := info_parts infoInt
  obtain ⟨jj, hj, hy0, hy1, hy2⟩ := info_parts info_ints
  have hspl := rpt_split (cells := cells) (by intro e; rw [e] at hn; simp at hn; omega) (fun row hr => ⟨by intro e; have := (hrow row hr).1; rw [e] at this; simp at this; omega, (hrow row hr).2⟩)
  have Hs1 := hide hspl.1
  have Hs2 := hide hspl.2
  have Hrow := hide hrow
  have Hrep := hide hrep
  have Hlen := hide hlen
  have Hl := hide hl
  have Ht := hide ht
  clear hspl hrow hrep hlen hl ht
  go_enter Tryz.func30, Tryz.ntmps30
  go_wp2_with fail
  refine (dayReport_any Bl p b t w (unhide Hl) hm (unhide Ht)).mono ?_
  rintro e w1 ⟨u, er, rfl, hr, hb1⟩
  obtain ⟨rfl, hu⟩ := unhide Hrep u er hr
  have hus : u.size ≤ 50000 := by rw [size_L, hu]; exact unhide Hlen
  have Hu := hide hu
  have Hb1 := hide hb1
  clear hr hb1 hu
  go_wp2_with fail
  refine (ksplit_any u 59 w1 hus).mono ?_
  rintro e w2 ⟨v1, ss, rfl, hss, ho2, hb2⟩
  rw [unhide Hu, unhide Hs1] at hss
  have hsl : ss.length = n := by have := congrArg List.length hss; unfold rptX at this; simpa [hn] using this
  obtain ⟨g1, cap1, rfl, hg1, hg1'⟩ := ownsRow_some ho2 (by omega)
  have Hss := hide hss
  have Ho2 := hide ho2
  have Hb2 := hide ((unhide Hb1).then hb2)
  have hsz2 := (unhide Hb2).size
  have hne : ((ss.length : Int) != (n : Int)) = false := by rw [hsl]; simp
  clear hss ho2 hb2
  go_wp2_with fail
  go_loopg [13, 14] n (fun mm vo vi wr => ∃ (j : Nat) (vs : List Value), j ≤ n ∧ mm = n - j ∧ vi = .int .i64 j ∧ vs.length = j ∧ Hid (wr.ownsRow w2.heap.size 28 1 vo j vs) ∧ Hid (∀ (i : Nat) u row, vs[i]? = some u → cells[i]? = some row → wr.ownsRow w2.heap.size 3 1 u m (row.map fun c => .int .i64 c.1)) ∧ Hid (Below w2.heap.size w2 wr))
  case atStart => exact ⟨0, [], by omega, rfl, rfl, rfl, World.ownsRow_nil _ _ _ _, (fun i u row h => by simp at h), Below.refl _ _⟩
  case round =>
    obtain ⟨j, vs, hj', rfl, rfl, hvl, Ho, Hr, Hb⟩ := hrel
    obtain ⟨wo, rfl⟩ : ∃ wo, wo = wr := ⟨_, rfl⟩
    have hszr := (unhide Hb).size
    by_cases hlt : j < n
    · obtain ⟨row, hrw⟩ : ∃ row, cells[j]? = some row := ⟨cells[j]'(by omega), List.getElem?_eq_getElem _⟩
      obtain ⟨sj, hsj⟩ : ∃ sj, ss[j]? = some sj := ⟨ss[j]'(by omega), List.getElem?_eq_getElem _⟩
      have hLj : L sj = jn 44 (rowX row) := by
        have h1 : (ss.map L)[j]? = some (L sj) := by rw [List.getElem?_map, hsj]; rfl
        rw [unhide Hss] at h1
        unfold rptX at h1
        rw [List.getElem?_map, hrw] at h1
        simp only [Option.map_some, Option.some.injEq] at h1
        exact h1.symm
      have hro := unhide Hrow row (List.mem_of_getElem? hrw)
      have d1 := ownsRow_cell (ownsRow_below (unhide Ho2) (unhide Hb)) (j := j) (u := .string sj) (by rw [List.getElem?_map, hsj]; rfl)
      have hsjz : sj.size ≤ 50000 := by
        rw [size_L, hLj]
        have h1 := split_le (rptT cells) 59 (jn 44 (rowX row)) (by rw [unhide Hs1]; unfold rptX; exact List.mem_map_of_mem (List.mem_of_getElem? hrw))
        have := unhide Hlen
        omega
      have HLj := hide hLj
      have Hro := hide hro.2
      have Hrl := hide hro.1
      have Hs2j := hide (unhide Hs2 row (List.mem_of_getElem? hrw))
      have Hrw := hide hrw
      have jlt : (j : Int) < (ss.length : Int) := by omega
      clear hrw hsj hLj hro
      go_wp2_with fail
      refine (ksplit_any sj 44 wo hsjz).mono ?_
      rintro e w3 ⟨v3, cs, rfl, hcs, ho3, hb3⟩
      rw [unhide HLj, unhide Hs2j] at hcs
      have hcl : cs.length = m := by have := congrArg List.length hcs; unfold rowX at this; simpa [unhide Hrl] using this
      obtain ⟨g3, cap3, rfl, hg3, hg3'⟩ := ownsRow_some ho3 (by omega)
      have Hcs := hide hcs
      have Ho3 := hide ho3
      have Hb3 := hide hb3
      have hsz3 := hb3.size
      have hne3 : ((cs.length : Int) != (m : Int)) = false := by rw [hcl]; simp
      clear hcs ho3 hb3
      go_wp2_with fail
      go_loopg [16, 17] m (fun mm vo2 vi2 wr => ∃ k : Nat, k ≤ m ∧ mm = m - k ∧ vi2 = .int .i64 k ∧ Hid (wr.ownsRow w3.heap.size 3 1 vo2 k ((row.take k).map fun c => .int .i64 c.1)) ∧ Hid (Below w3.heap.size w3 wr))
      case atStart => exact ⟨0, by omega, rfl, rfl, World.ownsRow_nil _ _ _ _, Below.refl _ _⟩
      case round =>
        obtain ⟨k, hk', rfl, rfl, Hrk, Hbx⟩ := hrel
        have hszx := (unhide Hbx).size
        by_cases hltk : k < m
        · obtain ⟨c, hck⟩ : ∃ c, row[k]? = some c := ⟨row[k]'(by rw [unhide Hrl]; exact hltk), List.getElem?_eq_getElem _⟩
          obtain ⟨ck, hckk⟩ : ∃ ck, cs[k]? = some ck := ⟨cs[k]'(by omega), List.getElem?_eq_getElem _⟩
          have hLk : L ck = cellT c := by
            have h1 : (cs.map L)[k]? = some (L ck) := by rw [List.getElem?_map, hckk]; rfl
            rw [unhide Hcs] at h1
            unfold rowX at h1
            rw [List.getElem?_map, hck] at h1
            simp only [Option.map_some, Option.some.injEq] at h1
            exact h1.symm
          have hcN := unhide Hro c (List.mem_of_getElem? hck)
          obtain ⟨neg, ds, hit, hdd, hd1, hd18, hval⟩ := itoa_parts hcN.2.1 hcN.2.2
          have hLk2 : L ck = (if neg then [45] else []) ++ ds := by rw [hLk, ← hit]; unfold cellT; rw [if_pos (by simp [hcN.1])]
          have Hnum := hide (fun wy : World => knumber_any neg ck ds wy hLk2 hdd hd1 hd18)
          rw [hval] at Hnum
          have d2 := ownsRow_cell (ownsRow_below (unhide Ho3) (unhide Hbx)) (j := k) (u := .string ck) (by rw [List.getElem?_map, hckk]; rfl)
          have klt : (k : Int) < (cs.length : Int) := by omega
          have Htk : Hid (((row.take (k + 1)).map fun c => Value.int .i64 c.1) = ((row.take k).map fun c => Value.int .i64 c.1) ++ [.int .i64 c.1]) := by
            show _ = _
            rw [List.take_add_one, hck]; simp
          obtain ⟨ark, crk, rfl⟩ := ownsRow_form (unhide Hrk)
          clear hck hckk hLk hit hdd hd1 hd18 hval hLk2 hcN
          go_wp2_with fail
          refine (unhide Hnum _).mono ?_
          rintro e w4 ⟨rfl, hw4⟩
          rw [hw4]
          clear hw4 w4
          go_wp2_with (first
            | (at_builtin; refine wpList_append_own _ rfl (.tmp 67) (.tmp 69) 28 rfl w3.heap.size 3 ii (.int .i64 0) 1 8 Tryz.underlying28 hi hz0 hz1 hz2 rfl (by decide) (.slice ark k crk) k _ rfl ((unhide Hrk).alloc _) ⟨wr.heap.size, 0, none⟩ 1 1 [.int .i64 c.1] rfl rfl (new1 _ _ (by simp) _ _) (fun x hx => by simp at hx; subst hx; rfl) (by unfold maxLen; omega) (by omega) (by simp; omega) ?_; intro vq' w5 hown5 hgr5 _; obtain ⟨gf, cf, rfl, hgf, hgf'⟩ := ownsRow_some hown5 (Nat.succ_pos _); have Hown5 := hide hown5; have Hgr5 := hide hgr5; clear hown5 hgr5))
          go_roundg (m - (k + 1))
          case measure => omega
          case rel =>
            refine ⟨k + 1, by omega, rfl, by go_num, ?_, ?_⟩
            · show World.ownsRow _ _ _ _ _ _ _
              rw [unhide Htk]
              exact unhide Hown5
            · exact ((unhide Hbx).alloc hszx _).grown (unhide Hgr5) (by simp; omega) (fun k hk => (ownsRow_tg (unhide Hrk) k hk).1)
        · obtain rfl : k = m := by omega
          obtain ⟨ark, crk, rfl⟩ := ownsRow_form (unhide Hrk)
          obtain ⟨ao4, co4, rfl⟩ := ownsRow_form (unhide Ho)
          have hwx : Below wo.heap.size wo wr := (unhide Hb3).then (unhide Hbx)
          have Hwx := hide hwx
          have Hox := hide (ownsRow_below (unhide Ho) hwx)
          have Hrx : Hid (∀ (i : Nat) u row, vs[i]? = some u → cells[i]? = some row → wr.ownsRow w2.heap.size 3 1 u k (row.map fun c => .int .i64 c.1)) := fun i u row hu hr => ownsRow_below (unhide Hr i u row hu hr) hwx
          have Hrk2 : Hid (wr.ownsRow w2.heap.size 3 1 (.slice ark k crk) k (row.map fun c => .int .i64 c.1)) := by
            have := unhide Hrk
            rw [List.take_of_length_le (by rw [unhide Hrl]; exact Nat.le_refl _)] at this
            exact ownsRow_base this (fun g hg => by have := (ownsRow_tg this g hg).1; have := hwx.size; omega)
          have hszwx := hwx.size
          clear hwx Hrk
          go_wp2_with (first
            | (at_builtin; refine wpList_append_own _ rfl (.tmp 71) (.tmp 73) 65 rfl w2.heap.size 28 jj (.slice none 0 0) 1 24 Tryz.underlying65 hj hy0 hy1 hy2 rfl (by decide) (.slice ao4 j co4) j _ rfl ((unhide Hox).alloc _) ⟨wr.heap.size, 0, none⟩ 1 1 [.slice ark k crk] rfl rfl (new1 _ _ (by simp) _ _) (fun x hx => by simp at hx; subst hx; rfl) (by unfold maxLen; omega) (by omega) (by simp; omega) ?_; intro vq' w6 hown6 hgr6 _; obtain ⟨gf, cf, rfl, hgf, hgf'⟩ := ownsRow_some hown6 (Nat.succ_pos _); have Hown6 := hide hown6; have Hgr6 := hide hgr6; clear hown6 hgr6))
          have hf6 : FrT w2.heap.size [28] wr w6 := ((FrT.refl _ _ wr).alloc _).grown (unhide Hgr6) (T := 28) (by simp) (fun g hg => ⟨(ownsRow_tg (unhide Hox) g hg).1, tg_alloc (ownsRow_tg (unhide Hox) g hg).2 _⟩)
          have Hf6 := hide hf6
          clear hf6
          go_roundg (n - (j + 1))
          case measure => omega
          case rel =>
            refine ⟨j + 1, vs ++ [.slice ark k crk], by omega, rfl, by go_num, by simp [hvl], Hown6, ?_, ?_⟩
            · intro i u rw' hu hr
              rw [List.getElem?_append] at hu
              split at hu
              · exact ownsRow_frT (unhide Hrx i u rw' hu hr) (unhide Hf6) (by decide)
              · rename_i hi2
                have hij : i - vs.length = 0 := by
                  rcases Nat.eq_zero_or_pos (i - vs.length) with h | h
                  · exact h
                  · rw [List.getElem?_eq_none (by simp; omega)] at hu; cases hu
                rw [hij] at hu
                simp only [List.getElem?_cons_zero, Option.some.injEq] at hu
                subst hu
                obtain rfl : i = j := by omega
                have := unhide Hrw
                rw [hr] at this
                simp only [Option.some.injEq] at this
                subst this
                exact ownsRow_frT (unhide Hrk2) (unhide Hf6) (by decide)
            · exact ((unhide Hb).trans ((unhide Hwx).mono hszr)).trans ((unhide Hf6).below (by omega))
    · obtain rfl : j = n := by omega
      have hfin : GrAt wo w.heap.size _ (cells.map fun row => row.map (·.1)) := ⟨vs, by
          have := unhide Ho
          rw [← hvl] at this
          exact ownsRow_base this (fun k hk => Nat.le_trans hsz2 (ownsRow_tg this k hk).1), by rw [List.length_map, hn, hvl], fun i u r hu hr => by
          rw [List.getElem?_map] at hr
          cases hq : cells[i]? with
          | none => rw [hq] at hr; simp at hr
          | some row =>
            rw [hq] at hr
            simp only [Option.map_some, Option.some.injEq] at hr
            subst hr
            have h1 := unhide Hr i u row hu hq
            have h2 := (unhide Hrow row (List.mem_of_getElem? hq)).1
            rw [List.length_map, h2, List.map_map]
            exact ownsRow_base h1 (fun k hk => Nat.le_trans hsz2 (ownsRow_tg h1 k hk).1)⟩
      have Hfin := hide hfin
      have Hbf := hide ((unhide Hb2).then (unhide Hb))
      obtain ⟨ao4, co4, rfl⟩ := ownsRow_form (unhide Ho)
      clear hfin
      go_wp2_with fail
      go_ret2
      exact ⟨_, rfl, unhide Hfin, unhide Hbf⟩

end Go.Proofs.YtdchbenfccofpaaGreatDoor
namespace Go.Proofs.YtdchbenfccofpaaGreatDoor
open Go.RowKit Db

set_option maxRecDepth 100000 in
set_option maxHeartbeats 8000000 in
theorem own_any (B p : Nat) (s : Bk) (n a b : Int) (w : World) (h : Rec w B p s) :
    Calls Tryz.prog 31 #[.pointer (some ⟨p, 0, none⟩), .int .i64 n, .int .i64 a, .int .i64 b] w fun e w' => e = .returned (.tuple #[.int .i64 (tkT (fun x => x == n) a b s.txs).1, .int .i64 (tkT (fun x => x == n) a b s.txs).2]) ∧ Below w.heap.size w w' := by
  obtain ⟨vp, vc, vt, tv, h⟩ := h
  obtain ⟨ao, cap, rfl⟩ := ownsRow_form h.txs.own
  have hlen : tv.length ≤ 64 := by have := h.good.posts; rw [← h.jr, List.length_map] at this; exact this
  have Hjr := hide h.jr
  have Htx := hide h.good.tx
  have H := hide h
  obtain ⟨⟨T1, T2⟩, hT⟩ : ∃ r, tkT (fun x => x == n) a b s.txs = r := ⟨_, rfl⟩
  rw [hT]
  have HT := hide hT
  clear h hT
  simp only
  go_enter Tryz.func31, Tryz.ntmps31
  go_wp2_with fail
  go_loopg [10, 11, 12] tv.length (fun mm vs vl vi wr => ∃ (j : Nat) (x c : Int), j ≤ tv.length ∧ mm = tv.length - j ∧ vi = .int .i64 j ∧ vs = .int .i64 x ∧ vl = .int .i64 c ∧ -(4000000000000 * (j : Int)) ≤ x ∧ x ≤ 4000000000000 * (j : Int) ∧ 0 ≤ c ∧ c ≤ 4 * (j : Int) ∧ Hid (x + (tkT (fun x => x == n) a b (s.txs.drop j)).1 = T1) ∧ Hid (c + (tkT (fun x => x == n) a b (s.txs.drop j)).2 = T2) ∧ Hid (Below w.heap.size w wr))
  case atStart => exact ⟨0, 0, 0, by omega, rfl, rfl, rfl, rfl, by omega, by omega, by omega, by omega, by show _ = _; rw [List.drop_zero, unhide HT]; simp, by show _ = _; rw [List.drop_zero, unhide HT]; simp, Below.refl _ _⟩
  case round =>
    obtain ⟨j, x, c, hj, rfl, rfl, rfl, rfl, hx1, hx2, hc1, hc2, Hx, Hc, Hb⟩ := hrel
    obtain ⟨wo, rfl⟩ : ∃ wo, wo = wr := ⟨_, rfl⟩
    have H1 := hide ((unhide H).kept (unhide Hb))
    have hsz := (unhide Hb).size
    have c2 := (unhide H1).blk.cell 2
    simp only [List.getElem?_toArray, List.getElem?_cons_zero, List.getElem?_cons_succ] at c2
    by_cases hlt : j < tv.length
    · obtain ⟨⟨t, v⟩, ht⟩ : ∃ t, tv[j]? = some t := ⟨tv[j], List.getElem?_eq_getElem hlt⟩
      obtain ⟨g, _, e1, hg, hg'⟩ := ownsRow_some (unhide H1).txs.own (by omega)
      simp only [Value.slice.injEq, true_and] at e1
      obtain ⟨rfl, rfl⟩ := e1
      have h3 := three_get (fun x : Tn × Value => Value.int .i64 x.1.1) (fun x => .int .i64 x.1.2.1) (fun x => x.2) tv j (t, v) ht
      have d0 := ownsRow_cell (unhide H1).txs.own (j := j * 3) h3.1
      have d1 := ownsRow_cell (unhide H1).txs.own (j := j * 3 + 1) h3.2.1
      have d2 := ownsRow_cell (unhide H1).txs.own (j := j * 3 + 2) h3.2.2
      have hst : s.txs[j]? = some t := by rw [← unhide Hjr, List.getElem?_map, ht]; rfl
      have hgt := unhide Htx t (List.mem_of_getElem? hst)
      have hO := tkT_O (q := fun x => x == n) (a := a) (b := b) hst
      have hln := (unhide H1).txs.lns _ (List.mem_of_getElem? ht)
      obtain ⟨ti, td, tl⟩ := t
      simp only at d0 d1 d2 hO hln hgt
      obtain ⟨aol, capl, rfl⟩ := ownsRow_form hln
      have h4 : tl.length ≤ 4 := hgt.2.2.2.2.1
      have Hll := hide hgt.2.2.2.2.2
      have Hx2 : Hid (x + (tkO (inD a b td) (fun x => x == n) tl).1 + (tkT (fun x => x == n) a b (s.txs.drop (j + 1))).1 = T1) := by show _ = _; rw [← unhide Hx, hO.1]; omega
      have Hc3 : Hid (c + (tkO (inD a b td) (fun x => x == n) tl).2 + (tkT (fun x => x == n) a b (s.txs.drop (j + 1))).2 = T2) := by show _ = _; rw [← unhide Hc, hO.2]; omega
      obtain ⟨E1, hE1⟩ : ∃ E, x + (tkO (inD a b td) (fun x => x == n) tl).1 = E := ⟨_, rfl⟩
      obtain ⟨E2, hE2⟩ : ∃ E, c + (tkO (inD a b td) (fun x => x == n) tl).2 = E := ⟨_, rfl⟩
      rw [hE1] at Hx2
      rw [hE2] at Hc3
      have HE1 := hide hE1
      have HE2 := hide hE2
      have Hln := hide hln
      obtain ⟨W, hW⟩ : ∃ W, wo.alloc (.cells #[.int .i64 ti, .int .i64 td, .slice aol tl.length capl] 120) = W := ⟨_, rfl⟩
      have HX : Hid (Blk W wo.heap.size #[.int .i64 ti, .int .i64 td, .slice aol tl.length capl] 120) := by rw [← hW]; exact Blk.new _ _ _
      have HbW : Hid (Below wo.heap.size wo W) := by rw [← hW]; exact (Below.refl _ _).alloc (Nat.le_refl _) _
      have HlW := hide ((LinesAt.of_own (unhide Hln)).kept (unhide HbW))
      have x1 := (unhide HX).cell 1
      have x2 := (unhide HX).cell 2
      simp only [List.getElem?_toArray, List.getElem?_cons_zero, List.getElem?_cons_succ] at x1 x2
      have hjj : (j : Int) < (tv.length : Int) := by omega
      clear h3 hst ht hgt hO hln hE1 hE2
      go_wp2_with fail
      try rw [hW]
      clear hW
      go_loopg [10, 11, 14] tl.length (fun mm vs vl vi wr => ∃ (k : Nat) (y d : Int), k ≤ tl.length ∧ mm = tl.length - k ∧ vi = .int .i64 k ∧ vs = .int .i64 y ∧ vl = .int .i64 d ∧ -(4000000000000 * (j : Int) + 1000000000000 * (k : Int)) ≤ y ∧ y ≤ 4000000000000 * (j : Int) + 1000000000000 * (k : Int) ∧ 0 ≤ d ∧ d ≤ 4 * (j : Int) + (k : Int) ∧ Hid (y + (tkO (inD a b td) (fun x => x == n) (tl.drop k)).1 = E1) ∧ Hid (d + (tkO (inD a b td) (fun x => x == n) (tl.drop k)).2 = E2) ∧ wr = W)
      case atStart => exact ⟨0, x, c, by omega, rfl, rfl, rfl, rfl, by omega, by omega, by omega, by omega, by show _ = _; rw [List.drop_zero]; exact unhide HE1, by show _ = _; rw [List.drop_zero]; exact unhide HE2, rfl⟩
      case round =>
        obtain ⟨k, y, d, hk, rfl, rfl, rfl, rfl, hy1, hy2, hd1, hd2, Hy, Hd, hwr⟩ := hrel
        rw [hwr]
        clear hwr
        by_cases hltk : k < tl.length
        · obtain ⟨⟨la, lm⟩, hl⟩ : ∃ l, tl[k]? = some l := ⟨tl[k], List.getElem?_eq_getElem hltk⟩
          obtain ⟨_, bl, off, rfl, hbl, f1, f2⟩ := (unhide HlW).line hl
          have hlk := unhide Hll _ (List.mem_of_getElem? hl)
          have Hyes := hide (fun h1 h2 => tkO_yes (ok := inD a b td) (q := fun x => x == n) hl h1 h2)
          have Hno := hide (fun h1 => tkO_no (ok := inD a b td) (q := fun x => x == n) hl h1)
          simp only at f1 f2 hlk Hyes Hno
          obtain ⟨_, _, hm1, hm2⟩ := hlk
          clear hl
          by_cases hq : la = n
          · subst hq
            by_cases ha : a ≤ td
            · by_cases hb' : td ≤ b
              · have hyn := unhide Hyes (by unfold inD; simp [ha, hb']) (by simp)
                have Hyy : Hid (y + lm + (tkO (inD a b td) (fun x => x == la) (tl.drop (k + 1))).1 = E1) := by show _ = _; rw [← unhide Hy, hyn.1]; omega
                have Hdd : Hid (d + 1 + (tkO (inD a b td) (fun x => x == la) (tl.drop (k + 1))).2 = E2) := by show _ = _; rw [← unhide Hd, hyn.2]; omega
                have q1 : (la == la) = true := by simp
                clear hyn Hyes Hno
                go_wp2_with fail
                go_roundg (tl.length - (k + 1))
                case measure => omega
                case rel => exact ⟨k + 1, y + lm, d + 1, by omega, rfl, by go_num, by go_num, by go_num, by omega, by omega, by omega, by omega, unhide Hyy, unhide Hdd, rfl⟩
              · have hyn := unhide Hno (.inr (by unfold inD; simp [hb']))
                have Hyy : Hid (y + (tkO (inD a b td) (fun x => x == la) (tl.drop (k + 1))).1 = E1) := by show _ = _; rw [← unhide Hy, hyn.1]
                have Hdd : Hid (d + (tkO (inD a b td) (fun x => x == la) (tl.drop (k + 1))).2 = E2) := by show _ = _; rw [← unhide Hd, hyn.2]
                have q1 : (la == la) = true := by simp
                clear hyn Hyes Hno
                go_wp2_with fail
                go_roundg (tl.length - (k + 1))
                case measure => omega
                case rel => exact ⟨k + 1, y, d, by omega, rfl, by go_num, rfl, rfl, by omega, by omega, by omega, by omega, unhide Hyy, unhide Hdd, rfl⟩
            · have hyn := unhide Hno (.inr (by unfold inD; simp [ha]))
              have Hyy : Hid (y + (tkO (inD a b td) (fun x => x == la) (tl.drop (k + 1))).1 = E1) := by show _ = _; rw [← unhide Hy, hyn.1]
              have Hdd : Hid (d + (tkO (inD a b td) (fun x => x == la) (tl.drop (k + 1))).2 = E2) := by show _ = _; rw [← unhide Hd, hyn.2]
              have q1 : (la == la) = true := by simp
              clear hyn Hyes Hno
              go_wp2_with fail
              go_roundg (tl.length - (k + 1))
              case measure => omega
              case rel => exact ⟨k + 1, y, d, by omega, rfl, by go_num, rfl, rfl, by omega, by omega, by omega, by omega, unhide Hyy, unhide Hdd, rfl⟩
          · have q1 : (la == n) = false := by simpa using hq
            have hyn := unhide Hno (.inl q1)
            have Hyy : Hid (y + (tkO (inD a b td) (fun x => x == n) (tl.drop (k + 1))).1 = E1) := by show _ = _; rw [← unhide Hy, hyn.1]
            have Hdd : Hid (d + (tkO (inD a b td) (fun x => x == n) (tl.drop (k + 1))).2 = E2) := by show _ = _; rw [← unhide Hd, hyn.2]
            clear hyn Hyes Hno
            go_wp2_with fail
            go_roundg (tl.length - (k + 1))
            case measure => omega
            case rel => exact ⟨k + 1, y, d, by omega, rfl, by go_num, rfl, rfl, by omega, by omega, by omega, by omega, unhide Hyy, unhide Hdd, rfl⟩
        · obtain rfl : k = tl.length := by omega
          have hE := tkO_end (inD a b td) (fun x => x == n) tl
          have hy0 : y = E1 := by rw [← unhide Hy, hE]; simp
          have hd0 : d = E2 := by rw [← unhide Hd, hE]; simp
          subst hy0 hd0
          have Hbf : Hid (Below w.heap.size w W) := (unhide Hb).trans ((unhide HbW).mono hsz)
          clear hE
          go_wp2_with fail
          go_roundg (tv.length - (j + 1))
          case measure => omega
          case rel => exact ⟨j + 1, y, d, by omega, rfl, by go_num, rfl, rfl, by omega, by omega, by omega, by omega, unhide Hx2, unhide Hc3, unhide Hbf⟩
    · obtain rfl : j = tv.length := by omega
      have hdr : s.txs.drop tv.length = [] := List.drop_of_length_le (by rw [← unhide Hjr, List.length_map]; exact Nat.le_refl _)
      have hx0 : x = T1 := by rw [← unhide Hx, hdr]; simp [tkT]
      have hc0 : c = T2 := by rw [← unhide Hc, hdr]; simp [tkT]
      subst hx0 hc0
      clear hdr
      go_wp2_with fail
      go_ret2
      exact ⟨rfl, unhide Hb⟩

end Go.Proofs.YtdchbenfccofpaaGreatDoor
namespace Go.Proofs.YtdchbenfccofpaaGreatDoor
open Go.RowKit Db

theorem cellsW_length (l : List Wr) : (cellsW l).length = l.length * 2 := by
  induction l with
  | nil => rfl
  | cons a r ih => unfold cellsW at ih ⊢; simp at ih ⊢; omega
theorem cellsW_one (l : List Wr) : ∀ u ∈ cellsW l, u.oneCell' = true := by
  intro u hu
  unfold cellsW at hu
  rw [List.mem_flatMap] at hu
  obtain ⟨a, _, hu⟩ := hu
  simp at hu
  rcases hu with rfl | rfl <;> rfl
theorem LedAt.told {w w5 : World} {B p u : Nat} {va vt vw : Value} {tv : List (Tn × Value)} {ws : List Wr} {s : Bk} (h : LedAt w B p va vt tv ⟨u, vw, ws⟩ s) (hb : Below w.heap.size w w5) :
    LedAt (w5.setCell ⟨p, 3, none⟩ (.slice none 0 0)) B p va vt tv ⟨u, .slice none 0 0, []⟩ s ∧ FrT B [102] w (w5.setCell ⟨p, 3, none⟩ (.slice none 0 0)) := by
  have h5 := h.kept hb
  have f2 : FrT B [102] w5 (w5.setCell ⟨p, 3, none⟩ (.slice none 0 0)) := (FrT.refl _ _ w5).setCell (T := 102) (by simp) h5.blk.tg h5.lo _
  refine ⟨⟨?_, h5.lo, ownsRow_frT h5.acs f2 (by decide), h5.txs.frT f2 (by decide) (by decide), h5.jr, h5.good, World.ownsRow_nil _ _ _ _, Nat.zero_le _, h5.dcnt⟩, (FrT.of_below hb).trans f2⟩
  have := h5.blk.set 3 (.slice none 0 0)
  simpa using this

set_option maxRecDepth 100000 in
set_option maxHeartbeats 2000000 in
theorem diskWrites_any (B p u : Nat) (ws : List Wr) (s : Bk) (w : World) (h : LedW w B p u ws s) :
    Calls Tryz.prog 65 #[.pointer (some ⟨p, 2, none⟩)] w fun e w' => (∃ v, e = .returned v ∧ w'.ownsRow w.heap.size 153 2 v ws.length (cellsW ws)) ∧ LedW w' B p u [] s ∧ FrT B [102] w w' := by
  obtain ⟨ii, hi, hz0, hz1, hz2⟩ := info_parts info_write
  obtain ⟨va, vt, tv, vw, h⟩ := h
  have hwl := h.dlen
  have hcn := h.dcnt
  have hbd := cnt_bound h.good
  have c3 := h.blk.cell 3
  have z3 := h.blk.frozen 3
  have lq := h.blk.lt
  have hlo := h.lo
  simp only [List.getElem?_toArray, List.getElem?_cons_zero, List.getElem?_cons_succ] at c3
  simp only at hwl hcn
  rcases h.dsk.2 with ⟨hvw, hn⟩ | ⟨g, cap, cur, hvw, hBg, _⟩
  · simp only at hvw hn
    subst hvw
    obtain rfl : ws = [] := List.length_eq_zero_iff.1 hn
    have H := hide h
    clear h hn
    go_enter Tryz.func65, Tryz.ntmps65
    go_wp2_with (first
      | (at_builtin; refine wpList_append_own_none rfl (.tmp 4) (.tmp 8) 72 rfl w.heap.size 153 ii 2 Tryz.underlying72 hi (.slice none 0 0) 0 [] rfl (World.ownsRow_nil _ _ _ _) rfl ?_))
    go_ret
    have hfin := (unhide H).told (Below.refl _ w)
    exact ⟨⟨_, rfl, World.ownsRow_nil _ _ _ _⟩, ⟨_, _, _, _, hfin.1⟩, hfin.2⟩
  · simp only at hvw
    subst hvw
    have H := hide h
    have Hcs : Hid (∀ j x, (cellsW ws)[j]? = some x → w.cell? ((⟨g, 0, none⟩ : Addr).add j) = some x) := by
      intro j x hj
      rw [Addr.add_lit, Nat.zero_add]
      exact ownsRow_cell h.dsk hj
    clear h
    go_enter Tryz.func65, Tryz.ntmps65
    go_wp2_with (first
      | (at_builtin; refine wpList_append_own _ rfl (.tmp 4) (.tmp 8) 72 rfl w.heap.size 153 ii (.agg #[.int .i64 0, .string ⟨#[]⟩]) 2 24 Tryz.underlying72 hi hz0 hz1 hz2 rfl (by decide) (.slice none 0 0) 0 [] rfl (World.ownsRow_nil _ _ _ _) ⟨g, 0, none⟩ ws.length cap (cellsW ws) rfl (cellsW_length ws) (unhide Hcs) (cellsW_one ws) (by unfold maxLen; omega) (by omega) (Nat.le_refl _) ?_; intro vk w3 hown3 hgr3 _; have hb3 := below_of_none hgr3; simp only [Nat.zero_add, List.nil_append] at hown3; obtain ⟨ak, ck, rfl⟩ := ownsRow_form hown3; have H3 := hide ((unhide H).kept hb3); have c5 := (unhide H3).blk.cell 3; have z5 := (unhide H3).blk.frozen 3; have l5 := (unhide H3).blk.lt; simp only [List.getElem?_toArray, List.getElem?_cons_zero, List.getElem?_cons_succ] at c5; have Hown3 := hide hown3; have Hb3 := hide hb3; clear hown3 hgr3 hb3))
    go_ret
    have hfin := (unhide H).told (unhide Hb3)
    exact ⟨⟨_, rfl, ownsRow_frT (unhide Hown3) ((FrT.refl B [102] w3).setCell (p := ⟨p, 3, none⟩) (T := 102) (by simp) (unhide H3).blk.tg hlo _) (by decide)⟩, ⟨_, _, _, _, hfin.1⟩, hfin.2⟩

set_option maxRecDepth 100000 in
set_option maxHeartbeats 1000000 in
theorem dayWrites_any (B p u : Nat) (ws : List Wr) (s : Bk) (w : World) (h : LedW w B p u ws s) :
    Calls Tryz.prog 34 #[.pointer (some ⟨p, 0, none⟩)] w fun e w' => (∃ ao cap, e = .returned (.slice ao ws.length cap) ∧ w'.ownsRow w.heap.size 153 2 (.slice ao ws.length cap) ws.length (cellsW ws)) ∧ LedW w' B p u [] s ∧ FrT B [102] w w' := by
  have Hc := hide (diskWrites_any B p u ws s w h)
  clear h
  go_enter Tryz.func34, Tryz.ntmps34
  go_wp2_with fail
  refine (unhide Hc).mono ?_
  rintro e w1 ⟨⟨v, rfl, k1⟩, k2, k3⟩
  obtain ⟨ao, cap, rfl⟩ := ownsRow_form k1
  have HF : Hid (w1.ownsRow w.heap.size 153 2 (.slice ao ws.length cap) ws.length (cellsW ws) ∧ LedW w1 B p u [] s ∧ FrT B [102] w w1) := ⟨k1, k2, k3⟩
  clear k1 k2 k3 Hc
  go_wp2_with fail
  go_ret
  exact ⟨⟨_, _, rfl, (unhide HF).1⟩, (unhide HF).2⟩

end Go.Proofs.YtdchbenfccofpaaGreatDoor
namespace Go.Proofs.YtdchbenfccofpaaGreatDoor
open Go.RowKit Db

theorem Rec.frB {w w' : World} {B B' q : Nat} {s : Bk} (h : Rec w B q s) (hf : FrT B' [102] w w') : Rec w' B q s := by
  obtain ⟨vp, vc, vt, tv, h⟩ := h
  exact ⟨_, _, _, _, h.frT hf (by decide) (by decide)⟩

set_option maxRecDepth 100000 in
set_option maxHeartbeats 2000000 in
theorem quiet_any (B q p u : Nat) (ws : List Wr) (s : Bk) (w : World) (hr : Rec w B q s) (hb : LedW w B p u ws s) (hT : ∀ w', FrT B tP w w' → Tab w') :
    Calls Tryz.prog 37 #[.pointer (some ⟨q, 0, none⟩), .pointer (some ⟨p, 0, none⟩)] w fun e w' => e = .returned (.bool (decide (ws.length = 0))) ∧ Rec w' B q s ∧ LedW w' B p u [] s ∧ FrT B tP w w' := by
  have Hr := hide hr
  have Hw := hide (dayWrites_any B p u ws s w hb)
  have HT := hide hT
  obtain ⟨y, hy, e1⟩ : ∃ y, decide (ws.length = 0) = y ∧ ((ws.length : Int) == 0) = y := ⟨_, rfl, by
    by_cases h : ws.length = 0
    · rw [h]; rfl
    · rw [decide_eq_false h, beq_eq_false_iff_ne]; omega⟩
  rw [hy]
  clear hr hb hT hy
  cases y
  all_goals
    go_enter Tryz.func37, Tryz.ntmps37
    go_wp2_with fail
    refine (unhide Hw).mono ?_
    rintro e w1 ⟨⟨ao, cap, rfl, k1⟩, k2, k3⟩
    have H1 : Hid (Rec w1 B q s ∧ LedW w1 B p u [] s ∧ FrT B tP w w1) := ⟨(unhide Hr).frB k3, k2, k3.mono (by simp [tP])⟩
    clear k1 k2 k3 Hw
    go_wp2_with fail
    refine (tells_any B B q p s w1 (unhide H1).1 (unhide H1).2.1.led (unhide HT _ (unhide H1).2.2)).mono ?_
    rintro e w2 ⟨rfl, hb2⟩
    have H2 : Hid (Rec w2 B q s ∧ LedW w2 B p u [] s ∧ FrT B tP w w2) := ⟨(unhide H1).1.kept hb2, (unhide H1).2.1.kept hb2, (unhide H1).2.2.then hb2⟩
    clear hb2
    go_wp2_with fail
    refine (dayWrites_any B p u [] s w2 (unhide H2).2.1).mono ?_
    rintro e w3 ⟨⟨ao3, cap3, rfl, k1⟩, k2, k3⟩
    have H3 : Hid (Rec w3 B q s ∧ LedW w3 B p u [] s ∧ FrT B tP w w3) := ⟨(unhide H2).1.frB k3, k2, (unhide H2).2.2.trans (k3.mono (by simp [tP]))⟩
    clear k1 k2 k3
    go_wp2_with fail
    go_ret
    exact ⟨rfl, unhide H3⟩

end Go.Proofs.YtdchbenfccofpaaGreatDoor
namespace Go.Proofs.YtdchbenfccofpaaGreatDoor
open Go.RowKit Db

def tot (l : List (List UInt8)) : Nat := (l.map List.length).sum
theorem flat_len (sep : UInt8) (l : List (List UInt8)) : (l.flatMap fun y => sep :: y).length = tot l + l.length := by
  induction l with
  | nil => rfl
  | cons x r ih => unfold tot at ih ⊢; simp only [List.flatMap_cons, List.length_append, List.length_cons, ih, List.map_cons, List.sum_cons]; omega
theorem jn_len (sep : UInt8) (l : List (List UInt8)) : (jn sep l).length = tot l + (l.length - 1) := by
  cases l with
  | nil => rfl
  | cons x r => unfold jn tot; simp only [List.length_append, flat_len, List.map_cons, List.sum_cons, List.length_cons]; unfold tot; omega
theorem tot_set (l : List (List UInt8)) : ∀ (k : Nat) (x y : List UInt8), l[k]? = some x → y.length = x.length + 1 → tot (l.set k y) = tot l + 1 := by
  induction l with
  | nil => intro k x y h; simp at h
  | cons a r ih =>
    intro k x y h hy
    cases k with
    | zero => simp at h; subst h; unfold tot; simp; omega
    | succ k =>
      simp only [List.getElem?_cons_succ] at h
      have := ih k x y h hy
      unfold tot at this ⊢
      simp only [List.set_cons_succ, List.map_cons, List.sum_cons]
      omega
theorem accT_shut {s : Bk} {k : Nat} {c : Ac} (hc : s.acs[k]? = some c) (h1 : 1 ≤ k) (hcc : c.2 = false) : (accT { s with acs := s.acs.set k (c.1, true) }).length = (accT s).length + 1 := by
  obtain ⟨j, rfl⟩ : ∃ j, k = j + 1 := ⟨k - 1, by omega⟩
  have h2 := accL_get hc
  have h3 : accL { s with acs := s.acs.set (j + 1) (c.1, true) } = (accL s).set j (acT (c.1, true)) := by
    unfold accL
    cases hq : s.acs with
    | nil => rw [hq] at hc; simp at hc
    | cons a r => simp
  unfold accT
  rw [jn_len, jn_len, h3, tot_set (accL s) j _ _ h2 (by unfold acT; simp [hcc]), List.length_set]
  omega
theorem clE_more {s : Bk} (hg : BkGood s) (kd a b : Int) (ls : List Ln) :
    (clY s kd a b ls = true ∧ s.acs.length + s.txs.length < (clE s kd a b ls).2.2.acs.length + (clE s kd a b ls).2.2.txs.length) ∨
    (clY s kd a b ls = true ∧ s.acs.length + s.txs.length = (clE s kd a b ls).2.2.acs.length + (clE s kd a b ls).2.2.txs.length ∧ accT (clE s kd a b ls).2.2 ≠ accT s) ∨
    (clY s kd a b ls = false ∧ (clE s kd a b ls).2.2 = s) := by
  by_cases h1 : kd = 1
  · subst h1
    have e1 : clE s 1 a b ls = opn s a := rfl
    have e2 : clY s 1 a b ls = decide ((opn s a).2.1 = 0) := rfl
    rw [e1, e2]
    by_cases he : (opn s a).2.1 = 0
    · obtain ⟨k, c, rfl, hc, hcc, h16, e3⟩ := opn_yes he
      left
      rw [e3]
      simp
    · right; right
      have := (opn_cnt hg a).resolve_left (fun h => he h.1)
      exact ⟨by simpa using he, this.2⟩
  by_cases h2 : kd = 2
  · subst h2
    have e1 : clE s 2 a b ls = (0, (cls s a).1, (cls s a).2) := rfl
    have e2 : clY s 2 a b ls = decide ((cls s a).1 = 0) := rfl
    rw [e1, e2]
    by_cases he : (cls s a).1 = 0
    · obtain ⟨k, c, rfl, hc, h0, hcc, e3⟩ := cls_yes he
      right; left
      rw [e3]
      refine ⟨rfl, by simp, fun h => ?_⟩
      have := accT_shut hc h0 hcc
      simp only at h
      rw [h] at this
      omega
    · right; right
      have := (cls_cnt hg a).resolve_left (fun h => he h.1)
      exact ⟨by simpa using he, this.2⟩
  by_cases h3 : kd = 3
  · subst h3
    have e1 : clE s 3 a b ls = (0, (pst s a b ls).1, (pst s a b ls).2) := rfl
    have e2 : clY s 3 a b ls = isN s a b ls := rfl
    rw [e1, e2]
    rcases pst_cnt hg a b ls with ⟨i1, _, _, _, _, _, _, _, i2, _⟩ | ⟨i1, i2⟩
    · left
      rw [i2]
      exact ⟨i1, by simp⟩
    · right; right
      exact ⟨i1, i2⟩
  · right; right
    have e1 : clE s kd a b ls = (0, 0, s) := by unfold clE; rw [if_neg h1, if_neg h2, if_neg h3]
    have e2 : clY s kd a b ls = false := by unfold clY; rw [if_neg h1, if_neg h2, if_neg h3]
    rw [e1, e2]
    exact ⟨rfl, rfl⟩
theorem clY_err {s : Bk} (hg : BkGood s) {kd a b : Int} {ls : List Ln} (h : ¬ (clE s kd a b ls).2.1 = 0) : clY s kd a b ls = false := by
  have h0 := (clE_no h).2
  rcases clE_more hg kd a b ls with ⟨_, h1⟩ | ⟨_, _, h2⟩ | ⟨h1, _⟩
  · rw [h0] at h1; omega
  · rw [h0] at h2; exact absurd rfl h2
  · exact h1
theorem dkW_len (y : Bool) (u : Nat) (x : ByteArray) : (dkW y u x []).length = if y then 2 else 0 := by
  unfold dkW; cases y <;> rfl

end Go.Proofs.YtdchbenfccofpaaGreatDoor
namespace Go.Proofs.YtdchbenfccofpaaGreatDoor
open Go.RowKit Db

theorem per_one {x y : Int} (hx0 : 0 ≤ x) (hx1 : x ≤ 999) (hy0 : 0 ≤ y) (hy1 : y ≤ 999) {l r : List UInt8} (hl : l = Lib.itoa x ++ 45 :: (Lib.itoa y ++ 124 :: r)) : PerEnd l true r [(Lib.itoa x, Lib.itoa y)] := by
  have hb : Blanks [] := fun c hc => by cases hc
  have := (PerSt.start l).bar (y := []) (c := 124) (r := r) (a := Lib.itoa x) (b := Lib.itoa y) (by rw [hl]; exact per_dec hx0 hx1 hy0 hy1 rfl) hb rfl
  simpa using this
theorem tot_le {l : List (List UInt8)} {m : Nat} (h : ∀ x ∈ l, x.length ≤ m) : tot l ≤ l.length * m := by
  induction l with
  | nil => simp [tot]
  | cons x r ih =>
    have h1 := ih (fun y hy => h y (by simp [hy]))
    have h2 := h x (by simp)
    unfold tot at h1 ⊢
    simp only [List.map_cons, List.sum_cons, List.length_cons, Nat.add_mul]
    omega
theorem cellT_len {c : Cl} (h : CellN c) : (cellT c).length ≤ 19 := by
  unfold cellT
  rw [if_pos (by simp [h.1])]
  obtain ⟨neg, ds, e, _, _, h18, _⟩ := itoa_parts h.2.1 h.2.2
  rw [e, List.length_append]
  cases neg <;> simp <;> omega
theorem rpt_len {cells : List (List Cl)} (h8 : cells.length ≤ 8) (h : ∀ row ∈ cells, row.length ≤ 4 ∧ ∀ c ∈ row, CellN c) : (rptT cells).length ≤ 50000 := by
  have h1 : ∀ x ∈ rptX cells, x.length ≤ 100 := by
    intro x hx
    unfold rptX at hx
    obtain ⟨row, hrow, rfl⟩ := List.mem_map.1 hx
    rw [jn_len]
    have h2 : tot (rowX row) ≤ (rowX row).length * 19 := tot_le (fun y hy => by
      unfold rowX at hy
      obtain ⟨c, hc, rfl⟩ := List.mem_map.1 hy
      exact cellT_len ((h row hrow).2 c hc))
    have h3 : (rowX row).length = row.length := by unfold rowX; simp
    have h4 := (h row hrow).1
    rw [h3] at h2
    rw [h3]
    omega
  unfold rptT
  rw [jn_len]
  have h2 := tot_le h1
  have h3 : (rptX cells).length = cells.length := by unfold rptX; simp
  rw [h3] at h2 ⊢
  omega
theorem tk_cell {s : Bk} (hg : BkGood s) (q : Int → Bool) (x y : Int) : CellN ((tkT q x y s.txs).1, 0) ∧ CellN ((tkT q x y s.txs).2, 0) := by
  have h := tkT_le q x y s.txs (fun t ht => ⟨(hg.tx t ht).2.2.2.2.1, fun l hl => ((hg.tx t ht).2.2.2.2.2 l hl).2.2⟩)
  have h64 := hg.posts
  refine ⟨⟨rfl, ?_, ?_⟩, ⟨rfl, ?_, ?_⟩⟩ <;> simp only <;> omega
theorem inA_own (s : Bk) (a : Int) : inA s 33 a = fun z => z == a := by funext z; rfl
theorem inA_all (s : Bk) (a : Int) : inA s 64 a = wth s.acs a 16 := by funext z; rfl
theorem inA_cnt (s : Bk) (a : Int) : inA s 35 a = wth s.acs a 16 := by funext z; rfl
def treeC (s : Bk) (a x y : Int) : List (List Cl) := [[((tkT (fun z => z == a) x y s.txs).1, 0)], [((tkT (wth s.acs a 16) x y s.txs).1, 0)], [((tkT (wth s.acs a 16) x y s.txs).2, 0)]]
theorem tree_cells {s : Bk} (a x y : Int) {X Y : List UInt8} (hX : val X = x) (hY : val Y = y) : shC s (pdv [(X, Y)]) [[(33, a)], [(64, a)], [(35, a)]] = treeC s a x y := by
  have hp : pdv [(X, Y)] = [(x, y)] := by unfold pdv; simp [hX, hY]
  rw [hp]
  have h1 : ∀ cells, cel (opE s [(x, y)] cells 0) [(33, a)] = ((tkT (fun z => z == a) x y s.txs).1, 0) := fun cells => by rw [cel_leaf rfl (by simp), ← inA_own]; rfl
  have h2 : ∀ cells, cel (opE s [(x, y)] cells 0) [(64, a)] = ((tkT (wth s.acs a 16) x y s.txs).1, 0) := fun cells => by rw [cel_leaf rfl (by simp), ← inA_all]; rfl
  have h3 : ∀ cells, cel (opE s [(x, y)] cells 0) [(35, a)] = ((tkT (wth s.acs a 16) x y s.txs).2, 0) := fun cells => by rw [cel_leaf rfl (by simp), ← inA_cnt]; rfl
  unfold shC rowC
  simp only [List.foldl_cons, List.foldl_nil, List.length_cons, List.length_nil, Nat.zero_add, List.range_one, List.map_cons, List.map_nil, h1, h2, h3, List.nil_append]
  rfl
def treeT (x y a : Int) : List UInt8 := Lib.itoa x ++ 45 :: (Lib.itoa y ++ 124 :: 33 :: (Lib.itoa a ++ 59 :: 64 :: (Lib.itoa a ++ 59 :: 35 :: (Lib.itoa a ++ []))))
theorem tree_rep {s : Bk} (hg : BkGood s) {x y a : Int} (hx0 : 0 ≤ x) (hxy : x ≤ y) (hy1 : y ≤ 999) (ha0 : 0 ≤ a) (ha1 : a < s.acs.length) {t : ByteArray} (ht : L t = treeT x y a) : ∀ u er, RepIs s t u er → er = 0 ∧ L u = rptT (treeC s a x y) := by
  intro u er h
  have hfew := hg.few
  have hd1 := day_dec hx0 (by omega)
  have hd2 := day_dec (n := y) (by omega) hy1
  obtain ⟨a1, a2, a3, a4⟩ := acc_dec ha0 (by omega)
  have hlen : (L t).length ≤ 30 := by
    rw [ht]; unfold treeT
    have h1 := hd1.1.2.1
    have h2 := hd2.1.2.1
    simp only [List.length_append, List.length_cons, List.length_nil]
    omega
  have hp := per_one hx0 (by omega) (by omega : 0 ≤ y) hy1 ht
  have e3 : Exp (35 :: (Lib.itoa a ++ [])) true [] [(35, a)] := by have := exp_sel (c := 35) (ds := Lib.itoa a) (l' := []) rfl a3 a1 a2 (.inl rfl); rw [a4] at this; exact this
  have e2 : Exp (64 :: (Lib.itoa a ++ 59 :: 35 :: (Lib.itoa a ++ []))) true (59 :: 35 :: (Lib.itoa a ++ [])) [(64, a)] := by have := exp_sel (c := 64) (ds := Lib.itoa a) (l' := 59 :: 35 :: (Lib.itoa a ++ [])) rfl a3 a1 a2 (.inr rfl); rw [a4] at this; exact this
  have e1 : Exp (33 :: (Lib.itoa a ++ 59 :: 64 :: (Lib.itoa a ++ 59 :: 35 :: (Lib.itoa a ++ [])))) true (59 :: 64 :: (Lib.itoa a ++ 59 :: 35 :: (Lib.itoa a ++ []))) [(33, a)] := by have := exp_sel (c := 33) (ds := Lib.itoa a) (l' := 59 :: 64 :: (Lib.itoa a ++ 59 :: 35 :: (Lib.itoa a ++ []))) rfl a3 a1 a2 (.inr rfl); rw [a4] at this; exact this
  obtain ⟨r1, h1⟩ := (RowSt.start _).semi e1 rfl
  obtain ⟨r2, h2⟩ := h1.semi e2 rfl
  obtain ⟨r3, h3⟩ := h2.fin_yes e3
  have hf := form_of (by omega) hp h3
  have ho : outc (pdv [(Lib.itoa x, Lib.itoa y)]) [[(33, a)], [(64, a)], [(35, a)]] = (0, 0) := by
    have hb : badP 0 (pdv [(Lib.itoa x, Lib.itoa y)]) = -1 := by
      unfold pdv
      simp only [List.map_cons, List.map_nil, badP, hd1.2, hd2.2]
      rw [if_neg (by omega)]
    unfold outc
    rw [hb]
    rfl
  have hn : notB s a = false := by
    unfold notB ther
    simp; omega
  have hre := rep_is h (by rw [size_L]; omega) hf ho (by simp [selq, selB, hn])
  rw [← tree_cells a x y hd1.2 hd2.2]
  exact hre
theorem tree_ok {s : Bk} (hg : BkGood s) (a x y : Int) : (∀ row ∈ treeC s a x y, row.length = 1 ∧ ∀ c ∈ row, CellN c) ∧ (rptT (treeC s a x y)).length ≤ 50000 := by
  have h1 : ∀ row ∈ treeC s a x y, row.length = 1 ∧ ∀ c ∈ row, CellN c := by
    intro row hr
    unfold treeC at hr
    simp only [List.mem_cons, List.not_mem_nil, or_false] at hr
    rcases hr with rfl | rfl | rfl
    · exact ⟨rfl, fun c hc => by simp at hc; subst hc; exact (tk_cell hg _ x y).1⟩
    · exact ⟨rfl, fun c hc => by simp at hc; subst hc; exact (tk_cell hg _ x y).1⟩
    · exact ⟨rfl, fun c hc => by simp at hc; subst hc; exact (tk_cell hg _ x y).2⟩
  exact ⟨h1, rpt_len (by simp [treeC]) (fun row hr => ⟨by rw [(h1 row hr).1]; omega, (h1 row hr).2⟩)⟩
/-- Three lists of one number. -/
theorem GrAt.three {w : World} {B : Nat} {v : Value} {a b c : Int} (h : GrAt w B v [[a], [b], [c]]) :
    ∃ g cap g1 c1 g2 c2 g3 c3, v = .slice (some ⟨g, 0, none⟩) 3 cap ∧ B ≤ g ∧ g < w.heap.size ∧ B ≤ g1 ∧ g1 < w.heap.size ∧ B ≤ g2 ∧ g2 < w.heap.size ∧ B ≤ g3 ∧ g3 < w.heap.size ∧
      w.cell? ⟨g, 0, none⟩ = some (.slice (some ⟨g1, 0, none⟩) 1 c1) ∧ w.cell? ⟨g, 1, none⟩ = some (.slice (some ⟨g2, 0, none⟩) 1 c2) ∧ w.cell? ⟨g, 2, none⟩ = some (.slice (some ⟨g3, 0, none⟩) 1 c3) ∧
      w.cell? ⟨g1, 0, none⟩ = some (.int .i64 a) ∧ w.cell? ⟨g2, 0, none⟩ = some (.int .i64 b) ∧ w.cell? ⟨g3, 0, none⟩ = some (.int .i64 c) := by
  obtain ⟨vs, h1, h2, h3⟩ := h
  match vs, h2 with
  | [u1, u2, u3], _ =>
    have k1 := h3 0 u1 [a] rfl rfl
    have k2 := h3 1 u2 [b] rfl rfl
    have k3 := h3 2 u3 [c] rfl rfl
    obtain ⟨g, cap, rfl, hg, hg'⟩ := ownsRow_some h1 (by simp)
    obtain ⟨g1, c1, rfl, hg1, hg1'⟩ := ownsRow_some k1 (by simp)
    obtain ⟨g2, c2, rfl, hg2, hg2'⟩ := ownsRow_some k2 (by simp)
    obtain ⟨g3, c3, rfl, hg3, hg3'⟩ := ownsRow_some k3 (by simp)
    exact ⟨g, cap, g1, c1, g2, c2, g3, c3, rfl, hg, hg', hg1, hg1', hg2, hg2', hg3, hg3', ownsRow_cell h1 (j := 0) rfl, ownsRow_cell h1 (j := 1) rfl, ownsRow_cell h1 (j := 2) rfl, ownsRow_cell k1 (j := 0) rfl, ownsRow_cell k2 (j := 0) rfl, ownsRow_cell k3 (j := 0) rfl⟩

end Go.Proofs.YtdchbenfccofpaaGreatDoor
namespace Go.Proofs.YtdchbenfccofpaaGreatDoor
open Go.RowKit Db

theorem cell_grown {w w' : World} {row : Option Nat} (h : w.grownBy w' row) {b i : Nat} (hb : b < w.heap.size) (hn : row ≠ some b) : w'.cell? ⟨b, i, none⟩ = w.cell? ⟨b, i, none⟩ :=
  World.cell?_of_block (a := ⟨b, i, none⟩) (h.block b hb (fun e => hn e.symm))
theorem owns_grown {w w' : World} {row : Option Nat} {B e size n : Nat} {v : Value} {xs : List Value} (h : w.ownsRow B e size v n xs) (hg : w.grownBy w' row) (hn : v.ownBlock = none ∨ v.ownBlock ≠ row) : w'.ownsRow B e size v n xs := by
  refine ⟨h.1, ?_⟩
  rcases h.2 with hx | ⟨g, cap, cur, rfl, hb, hgg, rest⟩
  · exact .inl hx
  · refine .inr ⟨g, cap, cur, rfl, hb, ?_, rest⟩
    rw [hg.block g (Array.getElem?_eq_some_iff.1 hgg).1 (fun e => by
      rcases hn with hn | hn
      · simp [Value.ownBlock] at hn
      · exact hn (by rw [← e]; rfl))]
    exact hgg
theorem ownBlock_lt {w : World} {B e size n : Nat} {v : Value} {xs : List Value} (h : w.ownsRow B e size v n xs) : ∀ k, v.ownBlock = some k → k < w.heap.size := by
  intro k hk
  obtain ⟨_, cs, fz, hg⟩ := ownsRow_tg h k hk
  exact (Array.getElem?_eq_some_iff.1 hg).1
/-- To halt a walk at a place. -/
def StopT (p : Prop) : Prop := p
theorem stopT {p : Prop} (h : StopT p) : p := h
theorem ap_mid {a a' l : Option Nat} {m n5 : Nat} (h : a = none ∨ a ≠ l) (hl : ∀ k, l = some k → k < m) (h5 : m ≤ n5) (hat : a' = a ∨ a' = some n5) : a' = none ∨ a' ≠ l := by
  rcases hat with rfl | rfl
  · exact h
  · right
    intro e
    have := hl n5 e.symm
    omega
theorem ap_end {a' l l' : Option Nat} {n6 n7 : Nat} (h : a' = none ∨ a' ≠ l) (ha : ∀ k, a' = some k → k < n6) (h6 : n6 ≤ n7) (hat : l' = l ∨ l' = some n7) : a' = none ∨ a' ≠ l' := by
  rcases hat with rfl | rfl
  · exact h
  · right
    intro e
    have := ha n7 e
    omega
theorem ap_sym {a l : Option Nat} (h : a = none ∨ a ≠ l) : l = none ∨ l ≠ a := by
  rcases h with rfl | h
  · cases l with
    | none => exact .inl rfl
    | some k => exact .inr (by simp)
  · exact .inr (fun e => h e.symm)
theorem range_snoc (f : Nat → Int) (j : Nat) : ((List.range (j + 1)).map fun k => Value.int .i64 (f k)) = ((List.range j).map fun k => Value.int .i64 (f k)) ++ [.int .i64 (f j)] := by
  rw [List.range_succ, List.map_append]; rfl
theorem chSum_le {acs : List Ac} {a M : Int} {F : Nat → Int} : ∀ (m : Nat), (∀ c, c < m → -M ≤ F c ∧ F c ≤ M) → 0 ≤ M → -(M * (m : Int)) ≤ chSum acs a F m ∧ chSum acs a F m ≤ M * (m : Int) := by
  intro m
  induction m with
  | zero => intro _ _; simp [chSum]
  | succ m ih =>
    intro h hM
    have h1 := ih (fun c hc => h c (by omega)) hM
    have h2 := h m (by omega)
    simp only [chSum]
    have h3 : M * ((m + 1 : Nat) : Int) = M * (m : Int) + M := by rw [Int.natCast_add, Int.mul_add]; simp
    rw [h3]
    split <;> omega
theorem Rec.par_at {w : World} {B q : Nat} {s : Bk} (h : Rec w B q s) : ∃ g cap, w.cell? ⟨q, 0, none⟩ = some (.slice (some ⟨g, 0, none⟩) s.acs.length cap) ∧ ∀ (k : Nat) c, s.acs[k]? = some c → w.cell? ⟨g, k, none⟩ = some (.int .i64 c.1) := by
  obtain ⟨vp, vc, vt, tv, h⟩ := h
  obtain ⟨g, cap, rfl, _, _⟩ := ownsRow_some h.par h.good.one
  have c0 := h.blk.cell 0
  simp only [List.getElem?_toArray, List.getElem?_cons_zero] at c0
  exact ⟨g, cap, c0, fun k c hc => ownsRow_cell h.par (by rw [List.getElem?_map, hc]; rfl)⟩

set_option maxRecDepth 100000 in
set_option maxHeartbeats 8000000 in
theorem tree_walk (v : Value) (xs : List KAct) (c d : Int) (w : World) (h : KActsAt w w.heap.size v xs) (hlen : xs.length ≤ 9223372036854775800) (hc0 : -9223372036854775808 ≤ c) (hc1 : c ≤ 9223372036854775807) (hd0 : -9223372036854775808 ≤ d) (hd1 : d ≤ 9223372036854775807) (ht : Tab w) :
    Calls Tryz.prog 9 #[v, .int .i64 c, .int .i64 d] w fun e w' => e = .returned (.bool true) ∧ Below w.heap.size w w' := by
  obtain ⟨ii, hi, hz0, hz1, hz2⟩ := info_parts infoInt
  obtain ⟨ao, cap, rfl⟩ : ∃ ao cap, v = .slice ao xs.length cap := by obtain ⟨⟨ao, cap, rfl, _⟩, _⟩ := h; exact ⟨ao, cap, rfl⟩
  have H := hide h
  have Ht := hide ht
  obtain ⟨hgood, hroot⟩ := krun_root xs rdy rdy_root.1 rdy_root.2
  obtain ⟨⟨s, u0, ws0⟩, hks⟩ : ∃ t, krun rdy xs = t := ⟨_, rfl⟩
  rw [hks] at hgood hroot
  simp only at hgood hroot
  have Hks := hide hks
  have Hgood := hide hgood
  have Hroot := hide hroot
  have hfew := hgood.few
  have hone := hgood.one
  obtain ⟨N, hN⟩ : ∃ N, s.acs.length = N := ⟨_, rfl⟩
  have HN := hide hN
  rw [hN] at hfew hone
  clear h ht hgood hroot hks hN
  go_enter Tryz.func9, Tryz.ntmps9
  go_wp2_with fail
  refine (kplayed_any _ xs w (unhide H) hlen (unhide Ht)).mono ?_
  rintro e w1 ⟨q, p, rfl, h1, hb1⟩
  rw [unhide Hks] at h1
  have H1 := hide h1
  have Hb1 := hide hb1
  clear h1 hb1
  go_wp2_with fail
  refine (kdays_any c d _ hc0 hc1 hd0 hd1).mono ?_
  rintro e w2 ⟨x, y, rfl, hx0, hxy, hy1, hw2⟩
  rw [hw2]
  clear hw2 w2
  obtain ⟨fA, hfA⟩ : ∃ f : Nat → Int, f = fun c : Nat => (tkT (wth s.acs (c : Int) 16) x y s.txs).1 := ⟨_, rfl⟩
  obtain ⟨fC, hfC⟩ : ∃ f : Nat → Int, f = fun c : Nat => (tkT (wth s.acs (c : Int) 16) x y s.txs).2 := ⟨_, rfl⟩
  have HfA := hide hfA
  have HfC := hide hfC
  clear hfA hfC
  go_wp2_with fail
  go_loopg [12, 13, 14] N (fun mm va vl vi wr => ∃ j : Nat, j ≤ N ∧ mm = N - j ∧ vi = .int .i64 j ∧ Hid (wr.ownsRow w1.heap.size 3 1 va j ((List.range j).map fun k => .int .i64 (fA k))) ∧ Hid (wr.ownsRow w1.heap.size 3 1 vl j ((List.range j).map fun k => .int .i64 (fC k))) ∧ Hid (va.ownBlock = none ∨ va.ownBlock ≠ vl.ownBlock) ∧ Hid (Below w1.heap.size w1 wr))
  case atStart => exact ⟨0, by omega, rfl, rfl, World.ownsRow_nil _ _ _ _, World.ownsRow_nil _ _ _ _, .inl rfl, Below.refl _ _⟩
  case round =>
    obtain ⟨j, hj, rfl, rfl, Ha, Hl, Hap, Hb⟩ := hrel
    obtain ⟨wo, rfl⟩ : ∃ wo, wo = wr := ⟨_, rfl⟩
    have hszo := (unhide Hb).size
    have HP := hide ((unhide H1).kept (unhide Hb))
    have Hbw := hide ((unhide Hb1).then (unhide Hb))
    have hpar := (unhide HP).rec'.par_at
    simp only at hpar
    rw [unhide HN] at hpar
    obtain ⟨gp, capp, c0, cpar⟩ := hpar
    have Hpar := hide cpar
    clear cpar
    by_cases hlt : j < N
    · have Hok := hide (tree_ok (unhide Hgood) (j : Int) x y)
      have Hrep := hide (fun (t : ByteArray) (ht : L t = treeT x y (j : Int)) => tree_rep (unhide Hgood) hx0 hxy hy1 (by omega) (by rw [unhide HN]; omega) ht)
      have hja := acc_dec (n := (j : Int)) (by omega) (by omega)
      have Hjl := hide hja.2.1
      clear hja
      go_wp2_with fail
      refine (itoa_any (j : Int) wo (by omega) (by omega) ((unhide Ht).below (unhide Hbw))).mono ?_
      rintro e w2 ⟨n, rfl, hn, hb2⟩
      have hns : n.size ≤ 2 := by rw [size_L, hn]; exact unhide Hjl
      have Hn := hide hn
      have Hb2 := hide hb2
      clear hn hb2
      go_wp2_with fail
      refine (kperiod_any x y w2 hx0 (by omega) (by omega) hy1 ((unhide Ht).below ((unhide Hbw).then (unhide Hb2)))).mono ?_
      rintro e w3 ⟨u, rfl, hu, hus, hb3⟩
      have Hu := hide hu
      have Hb3 := hide ((unhide Hb2).then hb3)
      clear hu hb3
      have s1 : (u ++ ⟨#[124, 33]⟩ : ByteArray).size ≤ 9 := by rw [ByteArray.size_append]; show u.size + 2 ≤ 9; omega
      have s2 : (u ++ ⟨#[124, 33]⟩ ++ n : ByteArray).size ≤ 11 := by rw [ByteArray.size_append]; omega
      have s3 : (u ++ ⟨#[124, 33]⟩ ++ n ++ ⟨#[59, 64]⟩ : ByteArray).size ≤ 13 := by rw [ByteArray.size_append]; show _ + 2 ≤ 13; omega
      have s4 : (u ++ ⟨#[124, 33]⟩ ++ n ++ ⟨#[59, 64]⟩ ++ n : ByteArray).size ≤ 15 := by rw [ByteArray.size_append]; omega
      have s5 : (u ++ ⟨#[124, 33]⟩ ++ n ++ ⟨#[59, 64]⟩ ++ n ++ ⟨#[59, 35]⟩ : ByteArray).size ≤ 17 := by rw [ByteArray.size_append]; show _ + 2 ≤ 17; omega
      have s6 : (u ++ ⟨#[124, 33]⟩ ++ n ++ ⟨#[59, 64]⟩ ++ n ++ ⟨#[59, 35]⟩ ++ n : ByteArray).size ≤ 19 := by rw [ByteArray.size_append]; omega
      have hLt : L (u ++ ⟨#[124, 33]⟩ ++ n ++ ⟨#[59, 64]⟩ ++ n ++ ⟨#[59, 35]⟩ ++ n : ByteArray) = treeT x y (j : Int) := by
        simp only [L_append, unhide Hu, unhide Hn]
        unfold treeT
        simp [L]
      have HLt := hide hLt
      clear hLt
      go_wp2_with fail
      have Hb3' := hide ((unhide Hbw).then (unhide Hb3))
      refine (grid_any w.heap.size p s _ (treeC s (j : Int) x y) 3 1 w3 ((unhide HP).kept (unhide Hb3)).led.led (by unfold maxLen; omega) ((unhide Ht).below (unhide Hb3')) (unhide Hrep _ (unhide HLt)) (unhide Hok).2 rfl (by omega) (by omega) (by omega) (by omega) (unhide Hok).1).mono ?_
      rintro e w4 ⟨vg, rfl, hgr, hb4⟩
      obtain ⟨g, capg, g1, c1, g2, c2, g3, c3, rfl, hg, hg', hg1, hg1', hg2, hg2', hg3, hg3', f0, f1, f2, r1, r2, r3⟩ := hgr.three
      have hsz3 := (unhide Hb3).size
      have Hb4 := hide ((unhide Hb3).then hb4)
      have hsz4 := (unhide Hb4).size
      clear hgr hb4 s1 s2 s3 s4 s5 s6 HLt Hrep Hok
      go_wp2_with fail
      refine (own_any w.heap.size q s (j : Int) x y w4 ((unhide HP).kept (unhide Hb4)).rec').mono ?_
      rintro e w5 ⟨rfl, hb5⟩
      have hsz45 := hb5.size
      have k0 : w5.cell? ⟨g, 0, none⟩ = _ := (hb5.cell (p := ⟨g, 0, none⟩) hg').trans f0
      have k1 : w5.cell? ⟨g, 1, none⟩ = _ := (hb5.cell (p := ⟨g, 1, none⟩) hg').trans f1
      have k2 : w5.cell? ⟨g, 2, none⟩ = _ := (hb5.cell (p := ⟨g, 2, none⟩) hg').trans f2
      have m1 : w5.cell? ⟨g1, 0, none⟩ = _ := (hb5.cell (p := ⟨g1, 0, none⟩) hg1').trans r1
      have m2 : w5.cell? ⟨g2, 0, none⟩ = _ := (hb5.cell (p := ⟨g2, 0, none⟩) hg2').trans r2
      have m3 : w5.cell? ⟨g3, 0, none⟩ = _ := (hb5.cell (p := ⟨g3, 0, none⟩) hg3').trans r3
      have Hb5 := hide ((unhide Hb4).then hb5)
      have hsz5 := (unhide Hb5).size
      have Ha5 := hide (ownsRow_below (unhide Ha) (unhide Hb5))
      have Hl5 := hide (ownsRow_below (unhide Hl) (unhide Hb5))
      have HaL := hide (ownBlock_lt (unhide Ha))
      have HlL := hide (ownBlock_lt (unhide Hl))
      have vA : (tkT (wth s.acs (j : Int) 16) x y s.txs).1 = fA j := by rw [unhide HfA]
      have vC : (tkT (wth s.acs (j : Int) 16) x y s.txs).2 = fC j := by rw [unhide HfC]
      rw [vA] at m2
      rw [vC] at m3
      obtain ⟨ow, how⟩ : ∃ ow, (tkT (fun z => z == (j : Int)) x y s.txs).1 = ow := ⟨_, rfl⟩
      rw [how] at m1 ⊢
      obtain ⟨aa, ca, rfl⟩ := ownsRow_form (unhide Ha)
      obtain ⟨al, cl, rfl⟩ := ownsRow_form (unhide Hl)
      have q1 : (ow != ow) = false := by simp
      clear hb5 f0 f1 f2 r1 r2 r3 vA vC how
      have hag : ∀ b, wo.heap.size ≤ b → (Value.slice aa j ca).ownBlock ≠ some b := fun b hb e => by have := unhide HaL b e; omega
      have Hag := hide hag
      clear hag
      go_wp2_with (first | (at_builtin; refine stopT ?_))
      show wpList _ _ _ _ _ _
      refine wpList_append_own_at _ rfl (.tmp 83) (.tmp 89) 28 rfl w1.heap.size 3 ii (.int .i64 0) 1 8 Tryz.underlying28 hi hz0 hz1 hz2 rfl (by decide) (.slice aa j ca) j _ rfl ((unhide Ha5).alloc _) ⟨w5.heap.size, 0, none⟩ 1 1 [.int .i64 (fA j)] rfl rfl (new1 _ _ (by simp) _ _) (fun x hx => by simp at hx; subst hx; rfl) (by unfold maxLen; omega) (by omega) (by simp; omega) ?_
      intro va6 w6 hown6 hgr6 _ hat6
      obtain ⟨gf, cf, rfl, hgf, hgf'⟩ := ownsRow_some hown6 (Nat.succ_pos _)
      have Hown6 := hide hown6
      have Hgr6 := hide hgr6
      have Hat6 := hide hat6
      have hs6 := hgr6.size
      have hs6' : w5.heap.size + 1 ≤ w6.heap.size := by simpa using hs6
      have n2 : w6.cell? ⟨g, 2, none⟩ = some (.slice (some ⟨g3, 0, none⟩) 1 c3) := (((cell_grown hgr6 (by simp; omega) (unhide Hag g (by omega))).trans (((Below.refl _ w5).alloc (Nat.le_refl _) _).cell (p := ⟨g, 2, none⟩) (by show g < _; omega))).trans k2)
      have n3 : w6.cell? ⟨g3, 0, none⟩ = some (.int .i64 (fC j)) := (((cell_grown hgr6 (by simp; omega) (unhide Hag g3 (by omega))).trans (((Below.refl _ w5).alloc (Nat.le_refl _) _).cell (p := ⟨g3, 0, none⟩) (by show g3 < _; omega))).trans m3)
      have Hl6 := hide (owns_grown ((unhide Hl5).alloc _) hgr6 (ap_sym (unhide Hap)))
      clear hown6 hgr6 hat6
      go_wp2_with (first | (at_builtin; refine stopT ?_))
      show wpList _ _ _ _ _ _
      refine wpList_append_own_at _ rfl (.tmp 91) (.tmp 97) 28 rfl w1.heap.size 3 ii (.int .i64 0) 1 8 Tryz.underlying28 hi hz0 hz1 hz2 rfl (by decide) (.slice al j cl) j _ rfl ((unhide Hl6).alloc _) ⟨w6.heap.size, 0, none⟩ 1 1 [.int .i64 (fC j)] rfl rfl (new1 _ _ (by simp) _ _) (fun x hx => by simp at hx; subst hx; rfl) (by unfold maxLen; omega) (by omega) (by simp; omega) ?_
      intro vl7 w7 hown7 hgr7 _ hat7
      obtain ⟨gh, ch, rfl, hgh, hgh'⟩ := ownsRow_some hown7 (Nat.succ_pos _)
      have Hown7 := hide hown7
      have Hgr7 := hide hgr7
      have Hat7 := hide hat7
      clear hown7 hgr7 hat7
      have Ha7 := hide (owns_grown ((unhide Hown6).alloc (.cells #[.int .i64 (fC j)] 3)) (unhide Hgr7) (ap_mid (unhide Hap) (unhide HlL) (by simp; omega) (unhide Hat6)))
      have Hap7 := hide (ap_end (ap_mid (unhide Hap) (unhide HlL) (by simp; omega) (unhide Hat6)) (ownBlock_lt (unhide Hown6)) (by simp) (unhide Hat7))
      have Hb7 : Hid (Below w1.heap.size w1 w7) := by
        have e1 : Below w1.heap.size w1 w5 := (unhide Hb).trans ((unhide Hb5).mono hszo)
        have e2 := (e1.alloc (by omega) (.cells #[.int .i64 (fA j)] 3)).grown (unhide Hgr6) (by simp; omega) (fun k hk => (ownsRow_tg (unhide Ha) k hk).1)
        exact (e2.alloc (by omega) (.cells #[.int .i64 (fC j)] 3)).grown (unhide Hgr7) (by simp; omega) (fun k hk => (ownsRow_tg (unhide Hl) k hk).1)
      go_wp2_with fail
      go_roundg (N - (j + 1))
      case measure => omega
      case rel =>
        refine ⟨j + 1, by omega, rfl, by go_num, ?_, ?_, Hap7, unhide Hb7⟩
        · show World.ownsRow _ _ _ _ _ _ _
          rw [range_snoc]; exact unhide Ha7
        · show World.ownsRow _ _ _ _ _ _ _
          rw [range_snoc]; exact unhide Hown7
    · obtain rfl : j = N := by omega
      obtain ⟨ga, ca, rfl, hga, hga'⟩ := ownsRow_some (unhide Ha) (by omega)
      obtain ⟨gl, cl, rfl, hgl, hgl'⟩ := ownsRow_some (unhide Hl) (by omega)
      have HbA : Hid (∀ q : Int → Bool, (-256000000000000 ≤ (tkT q x y s.txs).1 ∧ (tkT q x y s.txs).1 ≤ 256000000000000) ∧ (-256000000000000 ≤ (tkT q x y s.txs).2 ∧ (tkT q x y s.txs).2 ≤ 256000000000000)) := fun q => by
        have h := tkT_le q x y s.txs (fun t ht => ⟨((unhide Hgood).tx t ht).2.2.2.2.1, fun l hl => (((unhide Hgood).tx t ht).2.2.2.2.2 l hl).2.2⟩)
        have h64 := (unhide Hgood).posts
        exact ⟨⟨by omega, by omega⟩, ⟨by omega, by omega⟩⟩
      have HbF : Hid (∀ k, (-256000000000000 ≤ fA k ∧ fA k ≤ 256000000000000) ∧ (-256000000000000 ≤ fC k ∧ fC k ≤ 256000000000000)) := fun k => by
        rw [unhide HfA, unhide HfC]
        exact unhide HbA _
      go_wp2_with fail
      go_loopg [20] j (fun mm vi wr => ∃ i : Nat, i ≤ j ∧ mm = j - i ∧ vi = .int .i64 i ∧ Hid (Below wo.heap.size wo wr))
      case atStart => exact ⟨0, by omega, by omega, rfl, Below.refl _ _⟩
      case round =>
        obtain ⟨i, hi', rfl, rfl, Hbi⟩ := hrel
        obtain ⟨wp, rfl⟩ : ∃ wp, wp = wr := ⟨_, rfl⟩
        have HPp := hide ((unhide HP).kept (unhide Hbi))
        have hpar2 := (unhide HPp).rec'.par_at
        simp only at hpar2
        rw [unhide HN] at hpar2
        obtain ⟨gq, capq, c1, cpar2⟩ := hpar2
        clear cpar2
        have Hbwp := hide ((unhide Hbw).then (unhide Hbi))
        by_cases hlti : i < j
        · have Htr := hide (tkT_tree (unhide Hgood) (unhide Hroot) i (by rw [unhide HN]; exact hlti) x y)
          go_wp2_with fail
          refine (own_any w.heap.size q s (i : Int) x y wp (unhide HPp).rec').mono ?_
          rintro e w5 ⟨rfl, hb5⟩
          have hO := unhide HbA (fun z => z == (i : Int))
          obtain ⟨O1, hO1⟩ : ∃ O, (tkT (fun z => z == (i : Int)) x y s.txs).1 = O := ⟨_, rfl⟩
          obtain ⟨O2, hO2⟩ : ∃ O, (tkT (fun z => z == (i : Int)) x y s.txs).2 = O := ⟨_, rfl⟩
          rw [hO1, hO2] at hO Htr ⊢
          have HtA : Hid (fA i = O1 + chSum s.acs (i : Int) fA j) := by
            have h1 := (unhide Htr).1
            rw [unhide HN] at h1
            show _ = _
            rw [unhide HfA]
            exact h1
          have HtC : Hid (fC i = O2 + chSum s.acs (i : Int) fC j) := by
            have h1 := (unhide Htr).2
            rw [unhide HN] at h1
            show _ = _
            rw [unhide HfC]
            exact h1
          have HP5 := hide ((unhide HPp).kept hb5)
          have Hb5 := hide ((unhide Hbi).then hb5)
          have hpar3 := (unhide HP5).rec'.par_at
          simp only at hpar3
          rw [unhide HN] at hpar3
          obtain ⟨gr, capr, c2, cpar3⟩ := hpar3
          have Hpar3 := hide cpar3
          have HA5 := hide (ownsRow_below (unhide Ha) (unhide Hb5))
          have HC5 := hide (ownsRow_below (unhide Hl) (unhide Hb5))
          obtain ⟨⟨ho1, ho2⟩, ⟨ho3, ho4⟩⟩ := hO
          clear hb5 hO1 hO2 cpar3 c1 Htr
          go_wp2_with fail
          go_loopg [21, 22, 23] (j - 1) (fun mm v1 v2 v3 wr => ∃ (k : Nat) (y d : Int), 1 ≤ k ∧ k ≤ j ∧ mm = j - k ∧ v3 = .int .i64 k ∧ v1 = .int .i64 y ∧ v2 = .int .i64 d ∧ Hid (y = O1 + chSum s.acs (i : Int) fA k) ∧ Hid (d = O2 + chSum s.acs (i : Int) fC k) ∧ wr = w5)
          case atStart => exact ⟨1, O1, O2, by omega, by omega, by omega, rfl, rfl, rfl, by simp [Hid, chSum], by simp [Hid, chSum], rfl⟩
          case round =>
            obtain ⟨k, y', d', hk1, hk2, rfl, rfl, rfl, rfl, Hy, Hd, hwr⟩ := hrel
            rw [hwr]
            clear hwr
            have hby := chSum_le (acs := s.acs) (a := (i : Int)) (M := 256000000000000) (F := fA) k (fun c _ => (unhide HbF c).1) (by omega)
            have hbd := chSum_le (acs := s.acs) (a := (i : Int)) (M := 256000000000000) (F := fC) k (fun c _ => (unhide HbF c).2) (by omega)
            rw [show chSum s.acs (i : Int) fA k = y' - O1 by have := unhide Hy; omega] at hby
            rw [show chSum s.acs (i : Int) fC k = d' - O2 by have := unhide Hd; omega] at hbd
            by_cases hltk : k < j
            · obtain ⟨c, hck⟩ := acs_get (s := s) (k := k) (by rw [unhide HN]; exact hltk)
              have f1 := unhide Hpar3 k c hck
              have f2 := ownsRow_cell (unhide HA5) (j := k) (u := .int .i64 (fA k)) (by rw [List.getElem?_map, List.getElem?_range hltk]; rfl)
              have f3 := ownsRow_cell (unhide HC5) (j := k) (u := .int .i64 (fC k)) (by rw [List.getElem?_map, List.getElem?_range hltk]; rfl)
              have hbF := unhide HbF k
              have HsA : Hid (chSum s.acs (i : Int) fA (k + 1) = chSum s.acs (i : Int) fA k + (if 1 ≤ k ∧ c.1 = (i : Int) then fA k else 0)) := by
                show _ = _
                simp only [chSum]
                rw [List.getD_eq_getElem?_getD, hck, Option.getD_some]
              have HsC : Hid (chSum s.acs (i : Int) fC (k + 1) = chSum s.acs (i : Int) fC k + (if 1 ≤ k ∧ c.1 = (i : Int) then fC k else 0)) := by
                show _ = _
                simp only [chSum]
                rw [List.getD_eq_getElem?_getD, hck, Option.getD_some]
              have kj : (k : Int) < (j : Int) := by omega
              clear hck
              by_cases hci : c.1 = (i : Int)
              · have q1 : (c.1 == (i : Int)) = true := by simpa using hci
                have Hy2 : Hid (y' + fA k = O1 + chSum s.acs (i : Int) fA (k + 1)) := by show _ = _; rw [unhide HsA, if_pos ⟨hk1, hci⟩, unhide Hy]; omega
                have Hd2 : Hid (d' + fC k = O2 + chSum s.acs (i : Int) fC (k + 1)) := by show _ = _; rw [unhide HsC, if_pos ⟨hk1, hci⟩, unhide Hd]; omega
                clear HsA HsC hci
                go_wp2_with fail
                go_roundg (j - (k + 1))
                case measure => omega
                case rel => exact ⟨k + 1, y' + fA k, d' + fC k, by omega, by omega, rfl, by go_num, by go_num, by go_num, unhide Hy2, unhide Hd2, rfl⟩
              · have q1 : (c.1 == (i : Int)) = false := by simpa using hci
                have Hy2 : Hid (y' = O1 + chSum s.acs (i : Int) fA (k + 1)) := by show _ = _; rw [unhide HsA, if_neg (fun h => hci h.2), unhide Hy]; omega
                have Hd2 : Hid (d' = O2 + chSum s.acs (i : Int) fC (k + 1)) := by show _ = _; rw [unhide HsC, if_neg (fun h => hci h.2), unhide Hd]; omega
                clear HsA HsC hci
                go_wp2_with fail
                go_roundg (j - (k + 1))
                case measure => omega
                case rel => exact ⟨k + 1, y', d', by omega, by omega, rfl, by go_num, rfl, rfl, unhide Hy2, unhide Hd2, rfl⟩
            · obtain rfl : k = j := by omega
              have f2 := ownsRow_cell (unhide HA5) (j := i) (u := .int .i64 (fA i)) (by rw [List.getElem?_map, List.getElem?_range hlti]; rfl)
              have f3 := ownsRow_cell (unhide HC5) (j := i) (u := .int .i64 (fC i)) (by rw [List.getElem?_map, List.getElem?_range hlti]; rfl)
              have hy0 : y' = fA i := by rw [unhide HtA, unhide Hy]
              have hd0 : d' = fC i := by rw [unhide HtC, unhide Hd]
              subst hy0 hd0
              have q1 : (fA i != fA i) = false := by simp
              have q2 : (fC i != fC i) = false := by simp
              have ij : (i : Int) < (k : Int) := by omega
              clear hby hbd
              go_wp2_with fail
              go_roundg (k - (i + 1))
              case measure => omega
              case rel => exact ⟨i + 1, by omega, rfl, by go_num, unhide Hb5⟩
        · obtain rfl : i = j := by omega
          go_wp2_with fail
          go_ret
          exact ⟨rfl, unhide Hbwp⟩

end Go.Proofs.YtdchbenfccofpaaGreatDoor
namespace Db
theorem tkT_join (q : Int → Bool) {x y z : Int} (hxy : x ≤ y + 1) (hyz : y ≤ z) (ts : List Tn) : (tkT q x z ts).1 = (tkT q x y ts).1 + (tkT q (y + 1) z ts).1 ∧ (tkT q x z ts).2 = (tkT q x y ts).2 + (tkT q (y + 1) z ts).2 := by
  induction ts with
  | nil => exact ⟨rfl, rfl⟩
  | cons t r ih =>
    obtain ⟨h1, h2⟩ := ih
    simp only [tkT]
    by_cases a : x ≤ t.2.1 ∧ t.2.1 ≤ y
    · rw [if_pos a, if_pos (by omega : x ≤ t.2.1 ∧ t.2.1 ≤ z), if_neg (by omega : ¬ (y + 1 ≤ t.2.1 ∧ t.2.1 ≤ z))]
      simp only
      omega
    · by_cases b : y + 1 ≤ t.2.1 ∧ t.2.1 ≤ z
      · rw [if_neg a, if_pos (by omega : x ≤ t.2.1 ∧ t.2.1 ≤ z), if_pos b]
        simp only
        omega
      · rw [if_neg a, if_neg (by omega : ¬ (x ≤ t.2.1 ∧ t.2.1 ≤ z)), if_neg b]
        exact ⟨h1, h2⟩
end Db
namespace Go.Proofs.YtdchbenfccofpaaGreatDoor
open Go.RowKit Db

def joinC (a1 a2 o1 o2 n1 n2 : Int) : List (List Cl) := [[(a1, 0), (a2, 0), (a1 + a2, 0)], [(o1, 0), (o2, 0), (o1 + o2, 0)], [(n1, 0), (n2, 0), (n1 + n2, 0)], [(o1, 0), (o2, 0), (o1 + o2, 0)], [(0, 0), (a1, 0), (a2, 0)]]
theorem join_cells {s : Bk} (a x y z : Int) (hxy : x ≤ y + 1) (hyz : y ≤ z) : shC s [(x, y), (y + 1, z), (x, z)] [[(64, a)], [(33, a)], [(35, a)], [(36, 1)], [(60, 0)]] =
    joinC (tkT (wth s.acs a 16) x y s.txs).1 (tkT (wth s.acs a 16) (y + 1) z s.txs).1 (tkT (fun v => v == a) x y s.txs).1 (tkT (fun v => v == a) (y + 1) z s.txs).1 (tkT (wth s.acs a 16) x y s.txs).2 (tkT (wth s.acs a 16) (y + 1) z s.txs).2 := by
  obtain ⟨pd, hpd⟩ : ∃ pd, [(x, y), (y + 1, z), (x, z)] = pd := ⟨_, rfl⟩
  have hA := tkT_join (wth s.acs a 16) hxy hyz s.txs
  have hO := tkT_join (fun v => v == a) hxy hyz s.txs
  have r0 : ∀ cells, rowC s pd cells [(64, a)] = [((tkT (wth s.acs a 16) x y s.txs).1, 0), ((tkT (wth s.acs a 16) (y + 1) z s.txs).1, 0), ((tkT (wth s.acs a 16) x y s.txs).1 + (tkT (wth s.acs a 16) (y + 1) z s.txs).1, 0)] := fun cells => by
    rw [← hA.1, ← inA_all]
    unfold rowC
    rw [← hpd]
    show [cel _ _, cel _ _, cel _ _] = _
    rw [cel_leaf rfl (by simp), cel_leaf rfl (by simp), cel_leaf rfl (by simp)]
    rfl
  have r1 : ∀ cells, rowC s pd cells [(33, a)] = [((tkT (fun v => v == a) x y s.txs).1, 0), ((tkT (fun v => v == a) (y + 1) z s.txs).1, 0), ((tkT (fun v => v == a) x y s.txs).1 + (tkT (fun v => v == a) (y + 1) z s.txs).1, 0)] := fun cells => by
    rw [← hO.1, ← inA_own]
    unfold rowC
    rw [← hpd]
    show [cel _ _, cel _ _, cel _ _] = _
    rw [cel_leaf rfl (by simp), cel_leaf rfl (by simp), cel_leaf rfl (by simp)]
    rfl
  have r2 : ∀ cells, rowC s pd cells [(35, a)] = [((tkT (wth s.acs a 16) x y s.txs).2, 0), ((tkT (wth s.acs a 16) (y + 1) z s.txs).2, 0), ((tkT (wth s.acs a 16) x y s.txs).2 + (tkT (wth s.acs a 16) (y + 1) z s.txs).2, 0)] := fun cells => by
    rw [← hA.2, ← inA_cnt]
    unfold rowC
    rw [← hpd]
    show [cel _ _, cel _ _, cel _ _] = _
    rw [cel_leaf rfl (by simp), cel_leaf rfl (by simp), cel_leaf rfl (by simp)]
    rfl
  have r3 : ∀ (R0 R2 : List Cl) (b0 b1 b2 : Cl), rowC s pd [R0, [b0, b1, b2], R2] [(36, 1)] = [b0, b1, b2] := fun R0 R2 b0 b1 b2 => by
    unfold rowC
    rw [← hpd]
    show [cel _ _, cel _ _, cel _ _] = _
    rw [cel_leaf rfl (by simp), cel_leaf rfl (by simp), cel_leaf rfl (by simp)]
    rfl
  have r4 : ∀ (R1 R2 R3 : List Cl) (b0 b1 b2 : Cl), rowC s pd [[b0, b1, b2], R1, R2, R3] [(60, 0)] = [(0, 0), b0, b1] := fun R1 R2 R3 b0 b1 b2 => by
    unfold rowC
    rw [← hpd]
    show [cel _ _, cel _ _, cel _ _] = _
    rw [cel_leaf rfl (by simp), cel_leaf rfl (by simp), cel_leaf rfl (by simp)]
    rfl
  rw [hpd]
  unfold shC
  simp only [List.foldl_cons, List.foldl_nil, List.nil_append, List.cons_append, r0, r1, r2, r3, r4]
  rfl
def joinT (x y z a : Int) : List UInt8 := Lib.itoa x ++ 45 :: (Lib.itoa y ++ 44 :: (Lib.itoa (y + 1) ++ 45 :: (Lib.itoa z ++ 44 :: (Lib.itoa x ++ 45 :: (Lib.itoa z ++ 124 ::
  (64 :: (Lib.itoa a ++ 59 :: (33 :: (Lib.itoa a ++ 59 :: (35 :: (Lib.itoa a ++ 59 :: (36 :: 49 :: (59 :: (60 :: 48 :: []))))))))))))))
theorem join_rep {s : Bk} (hg : BkGood s) {x y z a : Int} (hx0 : 0 ≤ x) (hxy : x ≤ y) (hyz : y + 1 ≤ z) (hz1 : z ≤ 999) (ha0 : 0 ≤ a) (ha1 : a < s.acs.length) {t : ByteArray} (ht : L t = joinT x y z a) : ∀ u er, RepIs s t u er → er = 0 ∧ L u = rptT (joinC (tkT (wth s.acs a 16) x y s.txs).1 (tkT (wth s.acs a 16) (y + 1) z s.txs).1 (tkT (fun v => v == a) x y s.txs).1 (tkT (fun v => v == a) (y + 1) z s.txs).1 (tkT (wth s.acs a 16) x y s.txs).2 (tkT (wth s.acs a 16) (y + 1) z s.txs).2) := by
  intro u er h
  have hfew := hg.few
  have d1 := day_dec hx0 (by omega)
  have d2 := day_dec (n := y) (by omega) (by omega)
  have d3 := day_dec (n := y + 1) (by omega) (by omega)
  have d4 := day_dec (n := z) (by omega) hz1
  obtain ⟨a1, a2, a3, a4⟩ := acc_dec ha0 (by omega)
  have hlen : (L t).length ≤ 60 := by
    rw [ht]; unfold joinT
    have h1 := d1.1.2.1
    have h2 := d2.1.2.1
    have h3 := d3.1.2.1
    have h4 := d4.1.2.1
    simp only [List.length_append, List.length_cons, List.length_nil]
    omega
  have hb : Blanks [] := fun c hc => by cases hc
  have p0 := PerSt.start (L t)
  have p1 := p0.comma (y := []) (c := 44) (a := Lib.itoa x) (b := Lib.itoa y) (r := _) (by rw [ht]; exact per_dec hx0 (by omega) (by omega) (by omega) rfl) hb rfl
  have p2 := p1.comma (y := []) (c := 44) (a := Lib.itoa (y + 1)) (b := Lib.itoa z) (r := _) (by exact per_dec (by omega) (by omega) (by omega) hz1 rfl) hb rfl
  have p3 := p2.bar (y := []) (c := 124) (a := Lib.itoa x) (b := Lib.itoa z) (r := _) (by exact per_dec hx0 (by omega) (by omega) hz1 rfl) hb rfl
  simp only [List.nil_append, List.cons_append] at p3
  have e5 : Exp (60 :: 48 :: []) true [] [(60, 0)] := exp_old (c := 60) (x := 48) (l' := []) rfl rfl (.inl rfl)
  have e4 : Exp (36 :: 49 :: (59 :: (60 :: 48 :: []))) true (59 :: (60 :: 48 :: [])) [(36, 1)] := exp_old (c := 36) (x := 49) (l' := 59 :: (60 :: 48 :: [])) rfl rfl (.inr rfl)
  have es : ∀ (c : UInt8) (r : List UInt8), selB c.toNat = true → Exp (c :: (Lib.itoa a ++ 59 :: r)) true (59 :: r) [((c.toNat : Int), a)] := fun c r hc => by
    have := exp_sel (c := c) (ds := Lib.itoa a) (l' := 59 :: r) hc a3 a1 a2 (.inr rfl)
    rw [a4] at this; exact this
  obtain ⟨r1, h1⟩ := (RowSt.start _).semi (es 64 _ rfl) rfl
  obtain ⟨r2, h2⟩ := h1.semi (es 33 _ rfl) rfl
  obtain ⟨r3, h3⟩ := h2.semi (es 35 _ rfl) rfl
  obtain ⟨r4, h4⟩ := h3.semi e4 rfl
  obtain ⟨r5, h5⟩ := h4.fin_yes e5
  have hf := form_of (by omega) p3 h5
  have hpd : pdv [(Lib.itoa x, Lib.itoa y), (Lib.itoa (y + 1), Lib.itoa z), (Lib.itoa x, Lib.itoa z)] = [(x, y), (y + 1, z), (x, z)] := by
    unfold pdv; simp only [List.map_cons, List.map_nil, d1.2, d2.2, d3.2, d4.2]
  have ho : outc (pdv [(Lib.itoa x, Lib.itoa y), (Lib.itoa (y + 1), Lib.itoa z), (Lib.itoa x, Lib.itoa z)]) [[(64, a)], [(33, a)], [(35, a)], [(36, 1)], [(60, 0)]] = (0, 0) := by
    rw [hpd]
    have hb : badP 0 [(x, y), (y + 1, z), (x, z)] = -1 := by
      simp only [badP]
      rw [if_neg (by omega), if_neg (by omega), if_neg (by omega)]
    unfold outc
    rw [hb]
    rfl
  have hn : notB s a = false := by
    unfold notB ther
    simp; omega
  have hre := rep_is h (by rw [size_L]; omega) hf ho (by simp [selq, selB, hn])
  rw [hpd] at hre
  rw [← join_cells a x y z (by omega) (by omega)]
  exact hre
/-- A list of five lists of three numbers. -/
theorem GrAt.fifteen {w : World} {B : Nat} {v : Value} {a1 a2 o1 o2 n1 n2 : Int} (h : GrAt w B v ((joinC a1 a2 o1 o2 n1 n2).map fun row => row.map (·.1))) :
    ∃ g cap g0 c0 g1 c1 g2 c2 g3 c3 g4 c4, v = .slice (some ⟨g, 0, none⟩) 5 cap ∧
      w.cell? ⟨g, 0, none⟩ = some (.slice (some ⟨g0, 0, none⟩) 3 c0) ∧ w.cell? ⟨g, 1, none⟩ = some (.slice (some ⟨g1, 0, none⟩) 3 c1) ∧ w.cell? ⟨g, 2, none⟩ = some (.slice (some ⟨g2, 0, none⟩) 3 c2) ∧ w.cell? ⟨g, 3, none⟩ = some (.slice (some ⟨g3, 0, none⟩) 3 c3) ∧ w.cell? ⟨g, 4, none⟩ = some (.slice (some ⟨g4, 0, none⟩) 3 c4) ∧
      (w.cell? ⟨g0, 0, none⟩ = some (.int .i64 a1) ∧ w.cell? ⟨g0, 1, none⟩ = some (.int .i64 a2) ∧ w.cell? ⟨g0, 2, none⟩ = some (.int .i64 (a1 + a2))) ∧
      (w.cell? ⟨g1, 0, none⟩ = some (.int .i64 o1) ∧ w.cell? ⟨g1, 1, none⟩ = some (.int .i64 o2) ∧ w.cell? ⟨g1, 2, none⟩ = some (.int .i64 (o1 + o2))) ∧
      (w.cell? ⟨g2, 0, none⟩ = some (.int .i64 n1) ∧ w.cell? ⟨g2, 1, none⟩ = some (.int .i64 n2) ∧ w.cell? ⟨g2, 2, none⟩ = some (.int .i64 (n1 + n2))) ∧
      (w.cell? ⟨g3, 0, none⟩ = some (.int .i64 o1) ∧ w.cell? ⟨g3, 1, none⟩ = some (.int .i64 o2) ∧ w.cell? ⟨g3, 2, none⟩ = some (.int .i64 (o1 + o2))) ∧
      (w.cell? ⟨g4, 0, none⟩ = some (.int .i64 0) ∧ w.cell? ⟨g4, 1, none⟩ = some (.int .i64 a1) ∧ w.cell? ⟨g4, 2, none⟩ = some (.int .i64 a2)) := by
  obtain ⟨vs, h1, h2, h3⟩ := h
  match vs, h2 with
  | [u0, u1, u2, u3, u4], _ =>
    have k0 := h3 0 u0 _ rfl rfl
    have k1 := h3 1 u1 _ rfl rfl
    have k2 := h3 2 u2 _ rfl rfl
    have k3 := h3 3 u3 _ rfl rfl
    have k4 := h3 4 u4 _ rfl rfl
    obtain ⟨g, cap, rfl, _, _⟩ := ownsRow_some h1 (by simp)
    obtain ⟨g0, c0, rfl, _, _⟩ := ownsRow_some k0 (by simp)
    obtain ⟨g1, c1, rfl, _, _⟩ := ownsRow_some k1 (by simp)
    obtain ⟨g2, c2, rfl, _, _⟩ := ownsRow_some k2 (by simp)
    obtain ⟨g3, c3, rfl, _, _⟩ := ownsRow_some k3 (by simp)
    obtain ⟨g4, c4, rfl, _, _⟩ := ownsRow_some k4 (by simp)
    exact ⟨g, cap, g0, c0, g1, c1, g2, c2, g3, c3, g4, c4, rfl, ownsRow_cell h1 (j := 0) rfl, ownsRow_cell h1 (j := 1) rfl, ownsRow_cell h1 (j := 2) rfl, ownsRow_cell h1 (j := 3) rfl, ownsRow_cell h1 (j := 4) rfl,
      ⟨ownsRow_cell k0 (j := 0) rfl, ownsRow_cell k0 (j := 1) rfl, ownsRow_cell k0 (j := 2) rfl⟩, ⟨ownsRow_cell k1 (j := 0) rfl, ownsRow_cell k1 (j := 1) rfl, ownsRow_cell k1 (j := 2) rfl⟩, ⟨ownsRow_cell k2 (j := 0) rfl, ownsRow_cell k2 (j := 1) rfl, ownsRow_cell k2 (j := 2) rfl⟩,
      ⟨ownsRow_cell k3 (j := 0) rfl, ownsRow_cell k3 (j := 1) rfl, ownsRow_cell k3 (j := 2) rfl⟩, ⟨ownsRow_cell k4 (j := 0) rfl, ownsRow_cell k4 (j := 1) rfl, ownsRow_cell k4 (j := 2) rfl⟩⟩

end Go.Proofs.YtdchbenfccofpaaGreatDoor
