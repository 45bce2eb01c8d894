/- Own texts of the theorem in YtdchbenfccofpaaGreatDoorWAlY, part 15. -/
import Derived.Test.YtdchbenfccofpaaGreatDoorJ14
import Derived.Test.YtdchbenfccofpaaGreatDoorJ01
import Derived.Test.YtdchbenfccofpaaGreatDoorJ06
set_option maxRecDepth 100000
set_option maxHeartbeats 8000000
namespace Go.Proofs.YtdchbenfccofpaaGreatDoor
open Go.RowKit Db
theorem info_cell : (Tryz.prog.info? 139).map (fun i => (i.zero, i.size, i.bytes)) = some (some (.agg #[.int .i64 0, .int .u8 0]), 2, 16) := by kernel_rfl
theorem info_cells : (Tryz.prog.info? 141).map (fun i => (i.zero, i.size, i.bytes)) = some (some (.slice none 0 0), 1, 24) := by kernel_rfl
theorem own_down {w : World} {B B' : Nat} {e : TypeId} {size : Nat} {v : Value} {n : Nat} {xs : List Value} (h : w.ownsRow B e size v n xs) (hB : B' ≤ B) : w.ownsRow B' e size v n xs := by
 refine ⟨h.1, ?_⟩
 rcases h.2 with hn | ⟨g, cap, cur, rfl, hbg, rest⟩
 ·exact .inl hn
 ·exact .inr ⟨g, cap, cur, rfl, Nat.le_trans hB hbg, rest⟩
theorem CellsAt.snoc {W w5 : World} {B : Nat} {vc vc' v2 : Value} {vs : List Value} {cells : List (List Cl)} {row : List Cl} (h : CellsAt W B vc vs cells) (o : Obj)
  (hv : W.ownsRow B 139 2 v2 row.length (cellsC row)) (hown : w5.ownsRow B 141 1 vc' (vs.length + 1) (vs ++ [v2])) (hgr : (W.alloc o).grownBy w5 vc.ownBlock) : CellsAt w5 B vc' (vs ++ [v2]) (cells ++ [row]) := by
 refine ⟨by simpa using hown, by simp [h.len], ?_⟩
 intro i v c h1 h2
 by_cases hi : i < vs.length
 ·rw [List.getElem?_append_left hi] at h1
  rw [List.getElem?_append_left (by rw [← h.len]; exact hi)] at h2
  exact ((h.row i v c h1 h2).alloc o).kept hgr (own_apart' (h.row i v c h1 h2) h.own (by decide))
 ·rw [List.getElem?_append_right (by omega)] at h1
  rw [List.getElem?_append_right (by rw [← h.len]; omega)] at h2
  rw [← h.len] at h2
  match hk : i - vs.length, h1, h2 with
  | 0, h1, h2 =>
   simp at h1 h2
   subst h1 h2
   exact (hv.alloc o).kept hgr (own_apart' hv h.own (by decide))
  | k + 1, h1, h2 => simp at h1
theorem CellsAt.set {W : World} {B : Nat} {vc : Value} {vs : List Value} {cells : List (List Cl)} (h : CellsAt W B vc vs cells) {a : Addr} (ha : a.block < B) (u : Value) : CellsAt (W.setCell a u) B vc vs cells :=
 ⟨ownsRow_setCell_below h.own ha u, h.len, fun i v c h1 h2 => ownsRow_setCell_below (h.row i v c h1 h2) ha u⟩
def rowP (s : Bk) (pd : List (Int × Int)) (cells : List (List Cl)) (ps : List Pt) (k : Nat) : List Cl := (List.range k).map fun i => cel (opE s pd cells i) ps
theorem rowP_snoc (s : Bk) (pd : List (Int × Int)) (cells : List (List Cl)) (ps : List Pt) (k : Nat) : rowP s pd cells ps (k + 1) = rowP s pd cells ps k ++ [cel (opE s pd cells k) ps] := by
 unfold rowP; rw [List.range_succ, List.map_append]; rfl
theorem rowP_len (s : Bk) (pd : List (Int × Int)) (cells : List (List Cl)) (ps : List Pt) (k : Nat) : (rowP s pd cells ps k).length = k := by simp [rowP]
theorem shC_snoc {s : Bk} {pd : List (Int × Int)} {pss : List (List Pt)} {j : Nat} {ps : List Pt} (h : pss[j]? = some ps) : shC s pd (pss.take (j + 1)) = shC s pd (pss.take j) ++ [rowP s pd (shC s pd (pss.take j)) ps pd.length] := by
 unfold shC
 rw [List.take_add_one, h]
 simp only [Option.toList_some, List.foldl_append, List.foldl_cons, List.foldl_nil]
 rfl
theorem shC_len (s : Bk) (pd : List (Int × Int)) (pss : List (List Pt)) : (shC s pd pss).length = pss.length := by
 have key : ∀ (l : List (List Pt)) (acc : List (List Cl)), (l.foldl (fun cells ps => cells ++ [rowC s pd cells ps]) acc).length = acc.length + l.length := by
  intro l
  induction l with
  | nil => intro acc; simp
  | cons x t ih => intro acc; rw [List.foldl_cons, ih]; simp; omega
 unfold shC; rw [key]; simp
structure RowW (t : ByteArray) (ps : List Pt) (i : Nat) : Prop where
 wf : ∃ n, Wf n (L t) ps
 sz : t.size ≤ 200
 old : ∀ p ∈ ps, oldB p.1 = true → p.2.toNat < i
structure WkSt (w wr : World) (s : Bk) (pd : List (List UInt8 × List UInt8)) (cells : List (List Cl)) (pb B : Nat) (vf vt vr vc : Value) (ss : List ByteArray) (vs : List Value) : Prop where
 sb : Blk wr w.heap.size #[vf, vt, vr] 129
 gr : GridAt wr (w.heap.size + 1) s pd cells pb B vf vt vr vc ss vs
 bel : Below w.heap.size w wr
theorem WkSt.kept {w wr w' : World} {s : Bk} {pd : List (List UInt8 × List UInt8)} {cells : List (List Cl)} {pb B : Nat} {vf vt vr vc : Value} {ss : List ByteArray} {vs : List Value} (h : WkSt w wr s pd cells pb B vf vt vr vc ss vs) (hb : Below wr.heap.size wr w') : WkSt w w' s pd cells pb B vf vt vr vc ss vs :=
 ⟨h.sb.kept hb, h.gr.kept hb, h.bel.then' h.bel.size hb⟩
theorem WkSt.push {w wr w5 : World} {s : Bk} {pd : List (List UInt8 × List UInt8)} {cells : List (List Cl)} {pb B B' : Nat} {vf vt vr vc vc' v2 : Value} {ss : List ByteArray} {vs : List Value} {row : List Cl} {o : Obj} (h : WkSt w wr s pd cells pb B vf vt vr vc ss vs) (hR : Rfd w B' pb s) (hsh : SheetAt w B vf vt vr pd ss)
  (hv : wr.ownsRow (w.heap.size + 2) 139 2 v2 row.length (cellsC row)) (hown : w5.ownsRow (w.heap.size + 2) 141 1 vc' (vs.length + 1) (vs ++ [v2])) (hgr : (wr.alloc o).grownBy w5 vc.ownBlock) (hw : row.length = pd.length) (h8 : cells.length < 8) (hok : ∀ c ∈ row, ClOk c) :
  WkSt w (w5.setCell ⟨w.heap.size + 1, 4, none⟩ vc') s pd (cells ++ [row]) pb B vf vt vr vc' ss (vs ++ [v2]) := by
 have hsz := h.bel.size
 have hbel : Below w.heap.size w (w5.setCell ⟨w.heap.size + 1, 4, none⟩ vc') := by
  refine Below.setCell ?_ (by simp) _
  exact (h.bel.alloc hsz o).grown hgr (by simp; omega) (fun g hg => by have := (h.gr.cs.own.lt g hg).1; omega)
 refine ⟨?_, ⟨?_, ⟨B', hR.kept hbel⟩, hsh.kept hbel, ?_, ?_, ⟨h.gr.few.1, by simp; omega⟩, ?_⟩, hbel⟩
 ·exact ((h.sb.alloc o).grown hgr (fun e => by have := (h.gr.cs.own.lt _ e.symm).1; omega)).setOther _ _ (by simp)
 ·have := ((h.gr.blk.alloc o).grown hgr (fun e => by have := (h.gr.cs.own.lt _ e.symm).1; omega)).set 4 vc'
  simpa using this
 ·exact (CellsAt.snoc h.gr.cs o hv hown hgr).set (by simp) _
 ·intro r hr
  simp at hr
  rcases hr with hr | rfl
  ·exact h.gr.wid r hr
  ·exact hw
 ·intro r hr
  simp at hr
  rcases hr with hr | rfl
  ·exact h.gr.ok r hr
  ·exact hok
theorem worked_any (pb B B' : Nat) (s : Bk) (pd : List (List UInt8 × List UInt8)) (ss : List ByteArray) (pss : List (List Pt)) (vf vt vr : Value) (w : World) (hR : Rfd w B' pb s) (hsh : SheetAt w B vf vt vr pd ss) (hp4 : pd.length ≤ 4) (hlen : ss.length = pss.length) (h8 : pss.length ≤ 8)
  (hrow : ∀ (i : Nat) t ps, ss[i]? = some t → pss[i]? = some ps → RowW t ps i) :
  Calls Tryz.prog 79 #[.pointer (some ⟨pb, 0, none⟩), .agg #[vf, vt, vr]] w fun e w' => ∃ g vc vs, e = .returned vc ∧ w.heap.size ≤ g ∧ GridAt w' g s pd (shC s (pdv pd) pss) pb B vf vt vr vc ss vs ∧ Below w.heap.size w w' := by
 obtain ⟨i1, hi1, hz10, hz11, hz12⟩ := info_parts info_cell
 obtain ⟨i2, hi2, hz20, hz21, hz22⟩ := info_parts info_cells
 obtain ⟨aof, capf, rfl⟩ := oForm hsh.rf
 obtain ⟨aot, capt, rfl⟩ := oForm hsh.rt
 obtain ⟨aor, capr, rfl⟩ := oForm hsh.rr
 have HR := hI hR
 have Hsh := hI hsh
 have Hrow := hI hrow
 have hpdl : (pdv pd).length = pd.length := by simp [pdv]
 have Hlen := hI hlen
 have hs8 : ss.length ≤ 8 := by omega
 have Hst : Hid (WkSt w ((w.alloc (.cells #[.slice aof pd.length capf, .slice aot pd.length capt, .slice aor ss.length capr] 129)).alloc (.cells #[.pointer (some ⟨pb, 0, none⟩), .slice aof pd.length capf, .slice aot pd.length capt, .slice aor ss.length capr, .slice none 0 0] 136)) s pd [] pb B (.slice aof pd.length capf) (.slice aot pd.length capt) (.slice aor ss.length capr) (.slice none 0 0) ss []) := by
  have hb : Below w.heap.size w ((w.alloc (.cells #[.slice aof pd.length capf, .slice aot pd.length capt, .slice aor ss.length capr] 129)).alloc (.cells #[.pointer (some ⟨pb, 0, none⟩), .slice aof pd.length capf, .slice aot pd.length capt, .slice aor ss.length capr, .slice none 0 0] 136)) := ((Below.refl _ _).alloc (Nat.le_refl _) _).alloc (by simp) _
  refine ⟨(Blk.new _ _ _).alloc _, ⟨?_, ⟨B', hR.kept hb⟩, hsh.kept hb, CellsAt.nil _ _, by simp, ⟨hp4, by simp⟩, by simp⟩, hb⟩
  have := Blk.new (w.alloc (.cells #[.slice aof pd.length capf, .slice aot pd.length capt, .slice aor ss.length capr] 129)) #[.pointer (some ⟨pb, 0, none⟩), .slice aof pd.length capf, .slice aot pd.length capt, .slice aor ss.length capr, .slice none 0 0] 136
  simpa using this
 clear hR hsh hrow hlen
 go_enter Tryz.func79, Tryz.ntmps79
 go_wp2_with fail
 go_loopg [6] ss.length (fun m i wr => ∃ j : Nat, ∃ cells vc vs, j ≤ ss.length ∧ m = ss.length - j ∧ i = .int .i64 j ∧ Hid (cells = shC s (pdv pd) (pss.take j)) ∧ Hid (WkSt w wr s pd cells pb B (.slice aof pd.length capf) (.slice aot pd.length capt) (.slice aor ss.length capr) vc ss vs))
 case atStart => exact ⟨0, [], .slice none 0 0, [], by omega, rfl, rfl, rfl, Hst.u⟩
 case round =>
  obtain ⟨j, cells, vc, vs, hj, rfl, rfl, Hcs, Hw⟩ := hrel
  have hszw := Hw.u.bel.size
  obtain ⟨g0, g1, g2, g3, g4⟩ := five_cells Hw.u.gr.blk
  have b0 := Hw.u.sb.cell 0
  have b2 := Hw.u.sb.cell 2
  have gl := Hw.u.gr.blk.lt
  simp only [List.getElem?_toArray, List.getElem?_cons_zero, List.getElem?_cons_succ] at b0 b2
  by_cases hlt : j < ss.length
  ·obtain ⟨t, ht⟩ : ∃ t, ss[j]? = some t := ⟨ss[j], List.getElem?_eq_getElem hlt⟩
   obtain ⟨ps, hps⟩ : ∃ ps, pss[j]? = some ps := ⟨pss[j]'(by have := Hlen.u; omega), List.getElem?_eq_getElem _⟩
   have hrw := Hrow.u j t ps ht hps
   have hcl : cells.length = j := by rw [Hcs.u, shC_len, List.length_take]; have := Hlen.u; omega
   have Hsn : Hid (∀ row, row = rowP s (pdv pd) cells ps pd.length → cells ++ [row] = shC s (pdv pd) (pss.take (j + 1))) := by
    intro row hr
    rw [shC_snoc hps, ← Hcs.u, hr, hpdl]
   have Hwo : Hid (∀ (k : Nat) (wx : World), Grd wx (w.heap.size + 1) s pd cells → k < pd.length → Calls Tryz.prog 118 #[.pointer (some ⟨w.heap.size + 1, 0, none⟩), .string t, .int .i64 (k : Int)] wx fun e w' => ∃ c : Cl, e = .returned (clV c) ∧ c = cel (opE s (pdv pd) cells k) ps ∧ ClOk c ∧ Below wx.heap.size wx w') := by
    intro k wx hg hk
    obtain ⟨n, hwf⟩ := hrw.wf
    refine (worth_any n t ps _ k s pd cells wx hrw.sz hwf hg hk (by rw [hcl]; exact hrw.old)).mono ?_
    rintro e w1 ⟨c, rfl, hv, hok, hb⟩
    exact ⟨c, rfl, (cel_val hv).symm, hok, hb⟩
   obtain ⟨gr, _, e1, hgr, hgr'⟩ := oSome Hsh.u.rr (by omega)
   simp only [Value.slice.injEq, true_and] at e1
   obtain ⟨rfl, rfl⟩ := e1
   have Ht : Hid (w.cell? ⟨gr, j, none⟩ = some (.string t)) := oCell Hsh.u.rr (j := j) (u := .string t) (by rw [List.getElem?_map, ht]; rfl)
   clear ht hps hrw
   go_wp2_with fail
   obtain ⟨W1, hW1⟩ : ∃ W1, wr = W1 := ⟨_, rfl⟩
   rw [hW1] at Hw g0 g1 g2 g3 g4 b0 b2 gl hszw ⊢
   clear hW1
   go_loopg [7, 8] pd.length (fun m v i wx => ∃ k : Nat, k ≤ pd.length ∧ m = pd.length - k ∧ i = .int .i64 k ∧ Hid (wx.ownsRow W1.heap.size 139 2 v k (cellsC (rowP s (pdv pd) cells ps k))) ∧ Hid (∀ c ∈ rowP s (pdv pd) cells ps k, ClOk c) ∧ Hid (Below W1.heap.size W1 wx))
   case atStart => exact ⟨0, by omega, rfl, rfl, World.ownsRow_nil _ _ _ _, (fun c hc => by simp [rowP] at hc), Below.refl _ _⟩
   case round =>
    obtain ⟨k, hk, rfl, rfl, Hrw, Hok, Hbx⟩ := hrel
    obtain ⟨aov, capv, hvv⟩ := oForm Hrw.u
    subst hvv
    have hszx := Hbx.u.size
    have b0' := kept_cell' Hbx.u b0
    have b2' := kept_cell' Hbx.u b2
    have g4' := kept_cell' Hbx.u g4
    have hbw : Below w.heap.size w wr := Hw.u.bel.then' hszw Hbx.u
    have ht' := hbw.cell (p := ⟨gr, j, none⟩) hgr'
    rw [Ht.u] at ht'
    have hglx : w.heap.size + 1 < wr.heap.size := by omega
    have hgrx : gr < wr.heap.size := by omega
    have HWx := hI (Hw.u.kept Hbx.u)
    have z4' := HWx.u.gr.blk.frozen 4
    clear hbw
    by_cases hlk : k < pd.length
    ·go_wp2_with fail
     refine (Hwo.u k _ ⟨_, _, _, _, _, _, _, _, HWx.u.gr⟩ hlk).mono ?_
     rintro e w2 ⟨c, rfl, hc, hok, hb2⟩
     have Hc := hI hc
     have Hok2 := hI hok
     have Hrw2 := hI (oBelow Hrw.u hb2)
     have Hb2 := hI (Hbx.u.then' hszx hb2)
     have hsz2 := hb2.size
     obtain ⟨c1, c2⟩ := c
     unfold clV
     simp only
     clear hb2 hok hc
     go_wp2_with (first
      | (at_builtin; refine wpList_append_own _ rfl (.tmp 36) (.tmp 38) 141 rfl W1.heap.size 139 i1 (.agg #[.int .i64 0, .int .u8 0]) 2 16 Tryz.underlying141 hi1 hz10 hz11 hz12 rfl (by decide) (.slice aov k capv) k _ rfl ((Hrw2.u.alloc _).alloc _) ⟨w2.heap.size + 1, 0, none⟩ 1 1 [.int .i64 c1, .int .u8 c2] rfl rfl (cell_two_new' _ _ (by simp) _ _ _) (fun x hx => by simp at hx; rcases hx with rfl | rfl <;> rfl) (by unfold maxLen; omega) (by omega) (by simp; omega) ?_; intro vq' w5 hown5 hgr5 _))
     have Hrw5 : Hid (w5.ownsRow W1.heap.size 139 2 vq' (k + 1) (cellsC (rowP s (pdv pd) cells ps (k + 1)))) := by
      show World.ownsRow _ _ _ _ _ _ _
      rw [rowP_snoc, ← Hc.u, cellsC_snoc]
      exact hown5
     have Hok5 : Hid (∀ c ∈ rowP s (pdv pd) cells ps (k + 1), ClOk c) := by
      intro c hc
      rw [rowP_snoc, ← Hc.u] at hc
      simp at hc
      rcases hc with hc | rfl
      ·exact Hok.u c hc
      ·exact Hok2.u
     have Hb5 : Hid (Below W1.heap.size W1 w5) := ((Hb2.u.alloc (by omega) _).alloc (by simp; omega) _).grown hgr5 (by simp; omega) (fun g hg => (Hrw2.u.lt g hg).1)
     clear hown5 hgr5
     go_wp2_with fail
     go_roundg (pd.length - (k + 1))
     case measure => omega
     case rel => exact ⟨k + 1, by omega, rfl, by go_num, Hrw5.u, Hok5.u, Hb5.u⟩
    ·obtain rfl : k = pd.length := by omega
     obtain ⟨aoc, capc, hvc⟩ := oForm HWx.u.gr.cs.own
     have hvl : vs.length = j := by rw [HWx.u.gr.cs.len, hcl]
     rw [hvl] at hvc
     subst hvc
     have hwl := rowP_len s (pdv pd) cells ps pd.length
     go_wp2_with (first
      | (at_builtin; refine wpList_append_own _ rfl (.tmp 44) (.tmp 46) 134 rfl (w.heap.size + 2) 141 i2 (.slice none 0 0) 1 24 Tryz.underlying134 hi2 hz20 hz21 hz22 rfl (by decide) (.slice aoc j capc) j _ rfl (by have := HWx.u.gr.cs.own.alloc (.cells #[.slice aov pd.length capv] 141); rw [hvl] at this; exact this) ⟨wr.heap.size, 0, none⟩ 1 1 [.slice aov pd.length capv] rfl rfl (cell_one_new _ _ _) (fun x hx => by simp at hx; subst hx; rfl) (by unfold maxLen; omega) (by omega) (by simp; omega) ?_; intro vq' w5 hown5 hgr5 _; obtain ⟨gf, cf, rfl, hgf, hgf'⟩ := oSome hown5 (Nat.succ_pos _); have hbk : Blk w5 (w.heap.size + 1) #[.pointer (some ⟨pb, 0, none⟩), .slice aof pd.length capf, .slice aot pd.length capt, .slice (some ⟨gr, 0, none⟩) ss.length capr, .slice aoc j capc] 136 := (HWx.u.gr.blk.alloc _).grown hgr5 (fun e => by have := (HWx.u.gr.cs.own.lt _ e.symm).1; omega); have y4 := (five_cells hbk).2.2.2.2; have yz := hbk.frozen 4; have yl := hbk.lt; clear hbk))
     have HW5 := hI (HWx.u.push HR.u Hsh.u (row := rowP s (pdv pd) cells ps pd.length) (by rw [hwl]; exact own_down Hrw.u (by omega)) (by rw [hvl]; exact hown5) hgr5 hwl (by omega) Hok.u)
     have Hcs5 := hI (Hsn.u _ rfl)
     clear hown5 hgr5
     go_wp2_with fail
     go_roundg (ss.length - (j + 1))
     case measure => omega
     case rel => exact ⟨j + 1, _, _, _, by omega, rfl, by go_num, Hcs5.u, HW5.u⟩
  ·obtain rfl : j = ss.length := by omega
   have Hfin : Hid (cells = shC s (pdv pd) pss) := by show _ = _; rw [Hcs.u, Hlen.u, List.take_length]
   obtain ⟨aoc, capc, hvc⟩ := oForm Hw.u.gr.cs.own
   subst hvc
   go_wp2_with fail
   go_ret
   rw [← Hfin.u]
   exact ⟨w.heap.size + 1, _, _, rfl, by omega, Hw.u.gr, Hw.u.bel⟩
end Go.Proofs.YtdchbenfccofpaaGreatDoor
namespace Db
theorem dg2_stop {d : List UInt8} {m : Nat} (hm : m ≤ 2) (hd : ∀ c ∈ d.take m, digB c.toNat = true) (he : m = 2 ∨ d.length ≤ m ∨ ∃ c, d[m]? = some c ∧ digB c.toNat = false) : dg2 d = d.take m := by
 unfold dg2
 match m, hm, hd, he with
 | 0, _, _, he =>
  cases d with
  | nil => rfl
  | cons a r =>
   rcases he with he | he | ⟨c, hc, hn⟩
   ·cases he
   ·simp at he
   ·simp at hc; subst hc; simp [hn]
 | 1, _, hd, he =>
  match d with
  | [] => rfl
  | [a] => have := hd a (by simp); simp [this]
  | a :: b :: r =>
   have h1 := hd a (by simp)
   rcases he with he | he | ⟨c, hc, hn⟩
   ·cases he
   ·simp at he
   ·simp at hc; subst hc; simp [h1, hn]
 | 2, _, hd, _ =>
  match d with
  | [] => rfl
  | [a] => have := hd a (by simp); simp [this]
  | a :: b :: r =>
   have h1 := hd a (by simp)
   have h2 := hd b (by simp)
   simp [h1, h2]
end Db
namespace Go.Proofs.YtdchbenfccofpaaGreatDoor
open Go.RowKit Db
def notB (s : Bk) (n : Int) : Bool := !ther s n
theorem strg_step (q : Int → Bool) (t : ByteArray) (i : Nat) (h : i < t.size) : strg q ((L t).drop i) = ((selB (t[i].toNat : Int) && q (val (dg2 ((L t).drop (i + 1))))) || strg q ((L t).drop (i + 1))) := by
 rw [L_drop t i h]; rfl
theorem take_dig {t : ByteArray} {i m : Nat} (h : i + m < t.size) (hd : ∀ c ∈ ((L t).drop i).take m, digB c.toNat = true) (h0 : digB (t[i + m].toNat : Int) = true) : ∀ c ∈ ((L t).drop i).take (m + 1), digB c.toNat = true := by
 intro c hc
 rw [List.take_succ_eq_append_getElem (by rw [List.length_drop, L_length]; omega)] at hc
 simp only [List.mem_append, List.mem_singleton] at hc
 rcases hc with hc | rfl
 ·exact hd c hc
 ·rw [List.getElem_drop, L_get t (i + m) h]; exact h0
theorem strange_any (B p : Nat) (s : Bk) (t : ByteArray) (w : World) (h : Rfd w B p s) (hs : t.size ≤ 200) :
  Calls Tryz.prog 166 #[.pointer (some ⟨p, 0, none⟩), .string t] w fun e w' => e = .returned (.bool (strg (notB s) (L t))) ∧ Below w.heap.size w w' := by
 have Hth := hI (fun (n : Int) (wx : World) (hb : Below w.heap.size w wx) => there_any B p s n wx (h.kept hb))
 clear h
 go_enter Tryz.func166, Tryz.ntmps166
 go_wp2_with fail
 go_loopg [5] t.size (fun m i wr => ∃ j : Nat, j ≤ t.size ∧ m = t.size - j ∧ i = .int .i64 j ∧ Hid (strg (notB s) ((L t).drop j) = strg (notB s) (L t)) ∧ Hid (Below w.heap.size w wr))
 case atStart => exact ⟨0, by omega, rfl, rfl, rfl, Below.refl _ _⟩
 case round =>
  obtain ⟨j, hj, rfl, rfl, Ho, Hb⟩ := hrel
  by_cases hlt : j < t.size
  ·have Hst := hI (strg_step (notB s) t j hlt)
   obtain ⟨sel, hsel⟩ : ∃ sel, selB (t[j].toNat : Int) = sel := ⟨_, rfl⟩
   have Hsel := hI hsel
   rw [hsel] at Hst
   clear hsel
   go_wp2_with fail
   refine (slr _ _).mono ?_
   rintro e w1 ⟨rfl, rfl⟩
   rw [Hsel.u]
   cases sel with
   | false =>
    go_wp2_with fail
    go_roundg (t.size - (j + 1))
    case measure => omega
    case rel => exact ⟨j + 1, by omega, rfl, by go_num, by show _ = _; rw [← Ho.u, Hst.u]; simp, Hb.u⟩
   | true =>
    go_wp2_with fail
    obtain ⟨W, hW⟩ : ∃ W, w1 = W := ⟨_, rfl⟩
    rw [hW] at Hb ⊢
    clear hW
    go_loopg [7] 2 (fun mm i wx => ∃ m : Nat, m ≤ 2 ∧ mm = 2 - m ∧ j + 1 + m ≤ t.size ∧ i = .int .i64 ((j + 1 + m : Nat) : Int) ∧ wx = W ∧ Hid (∀ c ∈ ((L t).drop (j + 1)).take m, digB c.toNat = true))
    case atStart => exact ⟨0, by omega, rfl, by omega, by go_num, rfl, (fun c hc => by simp at hc)⟩
    case round =>
     obtain ⟨m, hm, rfl, hle, rfl, rfl, Hd⟩ := hrel
     have HX : Hid ((m = 2 ∨ ((L t).drop (j + 1)).length ≤ m ∨ ∃ c, ((L t).drop (j + 1))[m]? = some c ∧ digB c.toNat = false) → val (L (t.extract (j + 1) (j + 1 + m))) = val (dg2 ((L t).drop (j + 1)))) := by
      intro hx
      rw [dg2_stop hm Hd.u hx, L_extract, show j + 1 + m - (j + 1) = m by omega]
     have hes : (t.extract (j + 1) (j + 1 + m)).size ≤ 18 := by rw [← L_length, L_extract]; simp; omega
     have Hed := hI (dig_at (t := t.extract (j + 1) (j + 1 + m)) (l := ((L t).drop (j + 1)).take m) (by rw [L_extract, show j + 1 + m - (j + 1) = m by omega]) Hd.u)
     have hcase : (t.size ≤ j + 1 + m) ∨ (j + 1 + m < t.size ∧ m = 2) ∨ (∃ h : j + 1 + m < t.size, m < 2 ∧ t[j + 1 + m].toNat < 48) ∨ (∃ h : j + 1 + m < t.size, m < 2 ∧ 48 ≤ t[j + 1 + m].toNat ∧ 57 < t[j + 1 + m].toNat) ∨ (∃ h : j + 1 + m < t.size, m < 2 ∧ 48 ≤ t[j + 1 + m].toNat ∧ t[j + 1 + m].toNat ≤ 57) := by
      by_cases h1 : t.size ≤ j + 1 + m
      ·exact .inl h1
      by_cases h2 : m = 2
      ·exact .inr (.inl ⟨by omega, h2⟩)
      have h3 : j + 1 + m < t.size := by omega
      by_cases h4 : t[j + 1 + m].toNat < 48
      ·exact .inr (.inr (.inl ⟨h3, by omega, h4⟩))
      by_cases h5 : 57 < t[j + 1 + m].toNat
      ·exact .inr (.inr (.inr (.inl ⟨h3, by omega, by omega, h5⟩)))
      ·exact .inr (.inr (.inr (.inr ⟨h3, by omega, by omega, by omega⟩)))
     have hkk : ((j + 1 + m : Nat) : Int) = (j : Int) + 1 + m := by omega
     rcases hcase with hx | ⟨hx, rfl⟩ | ⟨hx, hm2, h48⟩ | ⟨hx, hm2, h48, h57⟩ | ⟨hx, hm2, h48, h57⟩
     rotate_right
     ·have Hd2 := hI (take_dig hx Hd.u (by unfold digB; simp; omega))
      go_wp2_with fail
      go_roundg (2 - (m + 1))
      case measure => omega
      case rel => exact ⟨m + 1, by omega, rfl, by omega, by go_num, rfl, Hd2.u⟩
     ·have Hv := hI (HX.u (.inr (.inl (by rw [List.length_drop, L_length]; omega))))
      clear HX Hd
      go_wp2_with fail
      refine (value_any _ _ hes Hed.u).mono ?_
      rintro e w2 ⟨rfl, _, _, rfl⟩
      obtain ⟨v, hv⟩ : ∃ v, val (dg2 ((L t).drop (j + 1))) = v := ⟨_, rfl⟩
      rw [Hv.u, hv]
      rw [hv] at Hst
      clear hv Hv
      go_wp2_with fail
      refine (Hth.u v _ Hb.u).mono ?_
      rintro e w3 ⟨rfl, rfl⟩
      cases hth : ther s v with
      | true =>
       rw [show notB s v = false by unfold notB; rw [hth]; rfl] at Hst
       go_wp2_with fail
       go_roundg (t.size - (j + 1))
       case measure => omega
       case rel => exact ⟨j + 1, by omega, rfl, by go_num, by show _ = _; rw [← Ho.u, Hst.u]; simp, Hb.u⟩
      | false =>
       rw [show notB s v = true by unfold notB; rw [hth]; rfl] at Hst
       go_wp2_with fail
       go_ret
       exact ⟨retB' (by rw [← Ho.u, Hst.u]; simp), Hb.u⟩
     ·have Hv := hI (HX.u (.inl rfl))
      clear HX Hd
      go_wp2_with fail
      refine (value_any _ _ hes Hed.u).mono ?_
      rintro e w2 ⟨rfl, _, _, rfl⟩
      obtain ⟨v, hv⟩ : ∃ v, val (dg2 ((L t).drop (j + 1))) = v := ⟨_, rfl⟩
      rw [Hv.u, hv]
      rw [hv] at Hst
      clear hv Hv
      go_wp2_with fail
      refine (Hth.u v _ Hb.u).mono ?_
      rintro e w3 ⟨rfl, rfl⟩
      cases hth : ther s v with
      | true =>
       rw [show notB s v = false by unfold notB; rw [hth]; rfl] at Hst
       go_wp2_with fail
       go_roundg (t.size - (j + 1))
       case measure => omega
       case rel => exact ⟨j + 1, by omega, rfl, by go_num, by show _ = _; rw [← Ho.u, Hst.u]; simp, Hb.u⟩
      | false =>
       rw [show notB s v = true by unfold notB; rw [hth]; rfl] at Hst
       go_wp2_with fail
       go_ret
       exact ⟨retB' (by rw [← Ho.u, Hst.u]; simp), Hb.u⟩
     ·have Hv := hI (HX.u (.inr (.inr ⟨t[j + 1 + m], by rw [List.getElem?_drop]; exact L_get? t _ hx, by unfold digB; simp; omega⟩)))
      clear HX Hd
      go_wp2_with fail
      refine (value_any _ _ hes Hed.u).mono ?_
      rintro e w2 ⟨rfl, _, _, rfl⟩
      obtain ⟨v, hv⟩ : ∃ v, val (dg2 ((L t).drop (j + 1))) = v := ⟨_, rfl⟩
      rw [Hv.u, hv]
      rw [hv] at Hst
      clear hv Hv
      go_wp2_with fail
      refine (Hth.u v _ Hb.u).mono ?_
      rintro e w3 ⟨rfl, rfl⟩
      cases hth : ther s v with
      | true =>
       rw [show notB s v = false by unfold notB; rw [hth]; rfl] at Hst
       go_wp2_with fail
       go_roundg (t.size - (j + 1))
       case measure => omega
       case rel => exact ⟨j + 1, by omega, rfl, by go_num, by show _ = _; rw [← Ho.u, Hst.u]; simp, Hb.u⟩
      | false =>
       rw [show notB s v = true by unfold notB; rw [hth]; rfl] at Hst
       go_wp2_with fail
       go_ret
       exact ⟨retB' (by rw [← Ho.u, Hst.u]; simp), Hb.u⟩
     ·have Hv := hI (HX.u (.inr (.inr ⟨t[j + 1 + m], by rw [List.getElem?_drop]; exact L_get? t _ hx, by unfold digB; simp; omega⟩)))
      clear HX Hd
      go_wp2_with fail
      refine (value_any _ _ hes Hed.u).mono ?_
      rintro e w2 ⟨rfl, _, _, rfl⟩
      obtain ⟨v, hv⟩ : ∃ v, val (dg2 ((L t).drop (j + 1))) = v := ⟨_, rfl⟩
      rw [Hv.u, hv]
      rw [hv] at Hst
      clear hv Hv
      go_wp2_with fail
      refine (Hth.u v _ Hb.u).mono ?_
      rintro e w3 ⟨rfl, rfl⟩
      cases hth : ther s v with
      | true =>
       rw [show notB s v = false by unfold notB; rw [hth]; rfl] at Hst
       go_wp2_with fail
       go_roundg (t.size - (j + 1))
       case measure => omega
       case rel => exact ⟨j + 1, by omega, rfl, by go_num, by show _ = _; rw [← Ho.u, Hst.u]; simp, Hb.u⟩
      | false =>
       rw [show notB s v = true by unfold notB; rw [hth]; rfl] at Hst
       go_wp2_with fail
       go_ret
       exact ⟨retB' (by rw [← Ho.u, Hst.u]; simp), Hb.u⟩
  ·obtain rfl : j = t.size := by omega
   go_wp2_with fail
   go_ret
   exact ⟨retB' (by rw [← Ho.u, L_drop_end t _ (Nat.le_refl _)]; rfl), Hb.u⟩
def cellT (c : Cl) : List UInt8 := if c.2 == 0 then Lib.itoa c.1 else [UInt8.ofNat c.2.toNat]
theorem refText_any (c : Cl) (w : World) (hc : ClOk c) :
   Calls Tryz.prog 167 #[clV c] w fun e w' => ∃ u : ByteArray, e = .returned (.string u) ∧ L u = cellT c ∧ u.size ≤ 21 ∧ Below w.heap.size w w' := by
 rcases hc with ⟨h0, hin⟩ | rfl | rfl
 · obtain ⟨a, b⟩ := c
   simp only at h0 hin
   subst h0
   unfold clV
   have hr := inR_iff.1 hin
   simp only
   clear hin
   go_enter Tryz.func167, Tryz.ntmps167
   go_wp2_with fail
   refine (number10_any a _ hr.1 hr.2).mono ?_
   rintro e w1 ⟨u, rfl, hu, hb⟩
   have Hu := hI hu
   have Hb : Hid (Below w.heap.size w w1) := ((Below.refl _ _).alloc (Nat.le_refl _) _).then' (by simp) hb
   clear hu hb
   go_wp2_with fail
   go_ret
   exact ⟨u, rfl, Hu.u, itoa_size hr.1 hr.2 Hu.u, Hb.u⟩
 · have hcv : (convert 187 9 (.slice (some ⟨w.heap.size + 1, 0, none⟩) 1 1)).run Tryz.prog ((w.alloc (.cells #[.int .i64 0, .int .u8 122] 139)).alloc (.cells #[.int .u8 122] 5)) = .ok (.string ⟨#[122]⟩) ((w.alloc (.cells #[.int .i64 0, .int .u8 122] 139)).alloc (.cells #[.int .u8 122] 5)) :=
     conv_one 122 _ _ (by simp)
   unfold clV
   simp only
   go_enter Tryz.func167, Tryz.ntmps167
   go_wp2_with fail
   go_ret
   exact ⟨_, rfl, rfl, by decide, ((Below.refl _ _).alloc (Nat.le_refl _) _).alloc (by simp) _⟩
 · have hcv : (convert 187 9 (.slice (some ⟨w.heap.size + 1, 0, none⟩) 1 1)).run Tryz.prog ((w.alloc (.cells #[.int .i64 0, .int .u8 111] 139)).alloc (.cells #[.int .u8 111] 5)) = .ok (.string ⟨#[111]⟩) ((w.alloc (.cells #[.int .i64 0, .int .u8 111] 139)).alloc (.cells #[.int .u8 111] 5)) :=
     conv_one 111 _ _ (by simp)
   unfold clV
   simp only
   go_enter Tryz.func167, Tryz.ntmps167
   go_wp2_with fail
   go_ret
   exact ⟨_, rfl, rfl, by decide, ((Below.refl _ _).alloc (Nat.le_refl _) _).alloc (by simp) _⟩
end Go.Proofs.YtdchbenfccofpaaGreatDoor
namespace Db
def jpre (sep : UInt8) (l : List (List UInt8)) (i : Nat) : List UInt8 := if i = 0 then [] else jn sep (l.take i) ++ [sep]
theorem jn_pre {sep : UInt8} {l : List (List UInt8)} {i : Nat} {x : List UInt8} (h : l[i]? = some x) : jn sep (l.take (i + 1)) = jpre sep l i ++ x := by
 unfold jpre
 by_cases hi : i = 0
 ·subst hi; rw [if_pos rfl]; exact jn_one h
 ·rw [if_neg hi, jn_more (by omega) h]; simp
theorem jpre_zero (sep : UInt8) (l : List (List UInt8)) : jpre sep l 0 = [] := rfl
theorem jpre_pos {sep : UInt8} {l : List (List UInt8)} {i : Nat} (h : 0 < i) : jpre sep l i = jn sep (l.take i) ++ [sep] := by unfold jpre; rw [if_neg (by omega)]
end Db
namespace Go.Proofs.YtdchbenfccofpaaGreatDoor
open Go.RowKit Db
theorem size_app (a b : ByteArray) : (a ++ b).size = a.size + b.size := by rw [size_L, L_append, List.length_append, L_length, L_length]
def rowX (row : List Cl) : List (List UInt8) := row.map cellT
def rptX (cells : List (List Cl)) : List (List UInt8) := cells.map fun row => jn 44 (rowX row)
def rptT (cells : List (List Cl)) : List UInt8 := jn 59 (rptX cells)
theorem outc_few {pd : List (Int × Int)} {pss : List (List Pt)} {er pl : Int} (h : outc pd pss = (er, pl)) (h0 : er = 0) : pd.length ≤ 4 ∧ pss.length ≤ 8 ∧ pl = 0 ∧ badN 0 pss < 0 := by
 subst h0
 unfold outc at h
 split at h
 ·simp at h
 ·split at h
  ·simp at h
  ·split at h
   ·simp at h
   ·split at h
    ·simp at h
    ·simp at h; omega
theorem rowW_of {t : ByteArray} {pd : List (List UInt8 × List UInt8)} {rows : List (List UInt8)} {pss : List (List Pt)} {ss : List ByteArray} {pl : Int} (hf : Db.Form (L t) pd rows pss) (ho : outc (pdv pd) pss = (0, pl)) (hss : ss.map L = rows) : ∀ (i : Nat) u ps, ss[i]? = some u → pss[i]? = some ps → RowW u ps i := by
 intro i u ps hu hps
 have hr : rows[i]? = some (L u) := by rw [← hss, List.getElem?_map, hu]; rfl
 have h := hf.row i (L u) ps hr hps
 refine ⟨h.wf, by rw [← L_length]; exact h.len, ?_⟩
 have h1 := badN_all pss 0 (by omega) (outc_few ho rfl).2.2.2 i ps hps
 exact nameB_lt h1 h.pos i (by omega)
theorem strg_of {t : ByteArray} {pd : List (List UInt8 × List UInt8)} {rows : List (List UInt8)} {pss : List (List Pt)} {ss : List ByteArray} (hf : Db.Form (L t) pd rows pss) (hss : ss.map L = rows) (q : Int → Bool) : ∀ (i : Nat) u ps, ss[i]? = some u → pss[i]? = some ps → strg q (L u) = selq q ps := by
 intro i u ps hu hps
 exact (hf.row i (L u) ps (by rw [← hss, List.getElem?_map, hu]; rfl) hps).sel q
theorem any_drop {α : Type} {f : α → Bool} {l : List α} {j : Nat} {x : α} (h : l[j]? = some x) : (l.drop j).any f = (f x || (l.drop (j + 1)).any f) := by
 obtain ⟨hi, rfl⟩ := List.getElem?_eq_some_iff.1 h
 rw [List.drop_eq_getElem_cons hi]; rfl
def RepIs (b : Bk) (s u : ByteArray) (er : Int) : Prop :=
 (200 < s.size ∧ er = 1 ∧ u = ⟨#[]⟩) ∨ (s.size ≤ 200 ∧ er = 2 ∧ 0 ≤ plc 0 0 0 0 (L s) ∧ u = ⟨#[]⟩) ∨
 (s.size ≤ 200 ∧ ∃ pd rows pss e0 pl, Db.Form (L s) pd rows pss ∧ outc (pdv pd) pss = (e0, pl) ∧ ((¬ e0 = 0 ∧ er = e0 ∧ u = ⟨#[]⟩) ∨ (e0 = 0 ∧ pss.any (selq (notB b)) = true ∧ er = 7 ∧ u = ⟨#[]⟩) ∨ (e0 = 0 ∧ pss.any (selq (notB b)) = false ∧ er = 0 ∧ L u = rptT (shC b (pdv pd) pss))))
theorem refReport_ok (B p : Nat) (b : Bk) (s : ByteArray) (w : World) (hs : s.size ≤ 200) (pd : List (List UInt8 × List UInt8)) (rows : List (List UInt8)) (pss : List (List Pt)) (pl : Int) (hf : Db.Form (L s) pd rows pss) (ho : outc (pdv pd) pss = (0, pl)) (h : Rfd w B p b) :
  Calls Tryz.prog 124 #[.pointer (some ⟨p, 0, none⟩), .string s] w fun e w' => ((pss.any (selq (notB b)) = true ∧ e = .returned (.tuple #[.string ⟨#[]⟩, .int .i64 7])) ∨ (pss.any (selq (notB b)) = false ∧ ∃ u, e = .returned (.tuple #[.string u, .int .i64 0]) ∧ L u = rptT (shC b (pdv pd) pss))) ∧ Below w.heap.size w w' := by
 have hfew := outc_few ho rfl
 have Hf := hI hf
 have Ho := hI ho
 have H := hI h
 clear hf ho h
 go_enter Tryz.func124, Tryz.ntmps124
 go_wp2_with fail
 refine (refRead_ok s _ hs pd rows pss Hf.u).mono ?_
 rintro e w1 ⟨a1, n1, k1, a2, n2, k2, a3, n3, k3, er', pl', rfl, ho', hb, hsh⟩
 have hh := Ho.u.symm.trans ho'
 simp only [Prod.mk.injEq] at hh
 obtain ⟨rfl, rfl⟩ := hh
 obtain ⟨ss, hss, hsh⟩ := hsh rfl
 have hp4 : pd.length ≤ 4 := by have := hfew.1; simpa [pdv] using this
 have hlen : ss.length = pss.length := by rw [← Hf.u.len, ← hss, List.length_map]
 have hs8 : ss.length ≤ 8 := by rw [hlen]; exact hfew.2.1
 obtain rfl : n3 = ss.length := by obtain ⟨_, _, e1⟩ := oForm hsh.rr; cases e1; rfl
 have HrowW := hI (rowW_of Hf.u Ho.u hss)
 have Hstr := hI (strg_of Hf.u hss (notB b))
 have hsz := hb.size
 obtain ⟨W, hW⟩ : ∃ W, w1.alloc (.cells #[.slice a1 n1 k1, .slice a2 n2 k2, .slice a3 ss.length k3] 129) = W := ⟨_, rfl⟩
 have HbW : Hid (Below w.heap.size w W) := by rw [← hW]; exact hb.alloc hsz _
 have HB : Hid (Blk W w1.heap.size #[.slice a1 n1 k1, .slice a2 n2 k2, .slice a3 ss.length k3] 129) := by rw [← hW]; exact Blk.new _ _ _
 have Hsh : Hid (SheetAt W w.heap.size (.slice a1 n1 k1) (.slice a2 n2 k2) (.slice a3 ss.length k3) pd ss) := by rw [← hW]; exact hsh.alloc _
 have hWs : W.heap.size = w1.heap.size + 1 := by rw [← hW]; simp
 have Hlen := hI hlen
 clear hb ho' hsh hss hlen
 go_wp2_with fail
 try rw [hW]
 clear hW
 go_loopg [9] ss.length (fun m i wr => ∃ j : Nat, j ≤ ss.length ∧ m = ss.length - j ∧ i = .int .i64 j ∧ Hid ((pss.drop j).any (selq (notB b)) = pss.any (selq (notB b))) ∧ Hid (Below W.heap.size W wr))
 case atStart => exact ⟨0, by omega, rfl, rfl, rfl, Below.refl _ _⟩
 case round =>
  obtain ⟨j, hj, rfl, rfl, Hany, Hbx⟩ := hrel
  have hszx := Hbx.u.size
  have HBx := hI (HB.u.kept Hbx.u)
  have b0 := HBx.u.cell 0
  have b1 := HBx.u.cell 1
  have b2 := HBx.u.cell 2
  simp only [List.getElem?_toArray, List.getElem?_cons_zero, List.getElem?_cons_succ] at b0 b1 b2
  have Hbw := hI (HbW.u.then' HbW.u.size Hbx.u)
  by_cases hlt : j < ss.length
  ·obtain ⟨t, ht⟩ : ∃ t, ss[j]? = some t := ⟨ss[j], List.getElem?_eq_getElem hlt⟩
   obtain ⟨ps, hps⟩ : ∃ ps, pss[j]? = some ps := ⟨pss[j]'(by have := Hlen.u; omega), List.getElem?_eq_getElem _⟩
   have hts := (HrowW.u j t ps ht hps).sz
   have hst := Hstr.u j t ps ht hps
   have Hdr := hI (any_drop (f := selq (notB b)) hps)
   have hshx := Hsh.u.kept Hbx.u
   obtain ⟨gr, _, e1, hgr, hgr'⟩ := oSome hshx.rr (by omega)
   simp only [Value.slice.injEq, true_and] at e1
   obtain ⟨rfl, rfl⟩ := e1
   have ht' := oCell hshx.rr (j := j) (u := .string t) (by rw [List.getElem?_map, ht]; rfl)
   have Hstg := hI (strange_any B p b t wr (H.u.kept Hbw.u) hts)
   rw [hst] at Hstg
   obtain ⟨r, hr⟩ : ∃ r, selq (notB b) ps = r := ⟨_, rfl⟩
   rw [hr] at Hstg Hdr
   clear ht hps hst hshx hr
   go_wp2_with fail
   refine Hstg.u.mono ?_
   rintro e w2 ⟨rfl, hb2⟩
   have Hb2 := hI (Hbx.u.then' hszx hb2)
   have Hb2w := hI (Hbw.u.then' Hbw.u.size hb2)
   clear hb2 Hstg
   cases r with
   | true =>
    go_wp2_with fail
    go_ret2
    exact ⟨.inl ⟨by rw [← Hany.u, Hdr.u]; rfl, rfl⟩, Hb2w.u⟩
   | false =>
    go_wp2_with fail
    go_roundg (ss.length - (j + 1))
    case measure => omega
    case rel => exact ⟨j + 1, by omega, rfl, by go_num, by show _ = _; rw [← Hany.u, Hdr.u]; simp, Hb2.u⟩
  ·obtain rfl : j = ss.length := by omega
   have Hno : Hid (pss.any (selq (notB b)) = false) := by show _ = _; rw [← Hany.u, Hlen.u, List.drop_length]; rfl
   have Hwk := hI (worked_any p w.heap.size B b pd ss pss _ _ _ wr (H.u.kept Hbw.u) (Hsh.u.kept Hbx.u) hp4 Hlen.u hfew.2.1 HrowW.u)
   go_wp2_with fail
   refine Hwk.u.mono ?_
   rintro e w2 ⟨g, vc, vs, rfl, _, hg, hb2⟩
   have Hb2 := hI (Hbw.u.then' Hbw.u.size hb2)
   obtain ⟨cells, hcells⟩ : ∃ cells, shC b (pdv pd) pss = cells := ⟨_, rfl⟩
   have hcl : cells.length = pss.length := by rw [← hcells, shC_len]
   rw [hcells] at hg
   have Hcells := hI hcells
   have HG := hI hg
   obtain ⟨aoc, capc, rfl⟩ := oForm hg.cs.own
   have hvl : vs.length = cells.length := hg.cs.len
   have hc8 : cells.length ≤ 8 := hg.few.2
   have hsz2 := Hb2.u.size
   rw [hvl]
   clear hb2 hg hcells Hwk hcl
   go_wp2_with fail
   go_loopg [12, 13] cells.length (fun m tv i wx => ∃ j : Nat, ∃ u : ByteArray, j ≤ cells.length ∧ m = cells.length - j ∧ i = .int .i64 j ∧ tv = .string u ∧ u.size ≤ 100 * j ∧ Hid (L u = jn 59 ((rptX cells).take j)) ∧ Hid (Below w2.heap.size w2 wx))
   case atStart => exact ⟨0, ⟨#[]⟩, by omega, rfl, rfl, rfl, Nat.zero_le _, rfl, Below.refl _ _⟩
   case round =>
    obtain ⟨i, u, hi, rfl, rfl, rfl, hus, Hu, Hb3⟩ := hrel
    have hsz3 := Hb3.u.size
    by_cases hlt2 : i < cells.length
    ·obtain ⟨row, hrow⟩ : ∃ row, cells[i]? = some row := ⟨cells[i], List.getElem?_eq_getElem hlt2⟩
     have hwid : row.length = pd.length := HG.u.wid row (List.mem_of_getElem? hrow)
     have Hok := hI (HG.u.ok row (List.mem_of_getElem? hrow))
     have HX : Hid ((rptX cells)[i]? = some (jn 44 (rowX row))) := by show _ = _; unfold rptX; rw [List.getElem?_map, hrow]; rfl
     obtain ⟨v, hv⟩ : ∃ v, vs[i]? = some v := ⟨vs[i]'(by omega), List.getElem?_eq_getElem _⟩
     have HR := hI (HG.u.cs.row i v row hv hrow)
     obtain ⟨aor, capr, rfl⟩ := oForm HR.u
     obtain ⟨gc, _, e1, hgc, hgc'⟩ := oSome HG.u.cs.own (by omega)
     simp only [Value.slice.injEq] at e1
     obtain ⟨rfl, _, rfl⟩ := e1
     have Hd := hI (oCell (by have := HG.u.cs.own; exact this) (j := i) hv)
     have Hin : Hid (∀ u1 : ByteArray, L u1 = jpre 59 (rptX cells) i → ∀ u2 : ByteArray, L u2 = jpre 59 (rptX cells) i ++ jn 44 (rowX row) → L u2 = jn 59 ((rptX cells).take (i + 1))) := by
      intro u1 h1 u2 h2
      rw [jn_pre HX.u, h2]
     have Hstart : Hid (∃ u1 : ByteArray, u1 = (if i = 0 then u else u ++ ⟨#[59]⟩) ∧ L u1 = jpre 59 (rptX cells) i ∧ u1.size ≤ 100 * i + 1) := by
      refine ⟨_, rfl, ?_, ?_⟩
      ·by_cases h0 : i = 0
       ·subst h0; rw [if_pos rfl, jpre_zero]; have := Hu.u; simpa [jn] using this
       ·rw [if_neg h0, L_append, Hu.u, jpre_pos (by omega)]; rfl
      ·by_cases h0 : i = 0
       ·rw [if_pos h0]; omega
       ·rw [if_neg h0, size_L, L_append, List.length_append, L_length]; show u.size + 1 ≤ _; omega
     obtain ⟨u1, hu1, hL1, hs1⟩ := Hstart.u
     have HL1 := hI hL1
     clear Hstart hL1 hrow hv
     have hin : (i : Int) < (cells.length : Int) := by omega
     by_cases h0 : i = 0
     ·have hpos : ¬ (0 : Int) < (i : Int) := by omega
      rw [if_pos h0] at hu1
      clear h0
      go_wp2_with fail
      obtain ⟨W3, hW3⟩ : ∃ W3, wr = W3 := ⟨_, rfl⟩
      rw [hW3] at Hb3 hsz3 ⊢
      clear hW3
      go_loopg [12, 14] pd.length (fun m tv iv wx => ∃ k : Nat, ∃ u : ByteArray, k ≤ pd.length ∧ m = pd.length - k ∧ iv = .int .i64 k ∧ tv = .string u ∧ u.size ≤ 810 + 22 * k ∧ Hid (u.size ≤ 100 * i + 1 + 22 * k) ∧ Hid (L u = jpre 59 (rptX cells) i ++ jn 44 ((rowX row).take k)) ∧ Hid (Below W3.heap.size W3 wx))
      case atStart => exact ⟨0, u, by omega, rfl, rfl, rfl, by rw [← hu1]; omega, (show _ ≤ _ from by rw [← hu1]; omega), (show _ = _ from by rw [← hu1, HL1.u]; simp [jn]), Below.refl _ _⟩
      case round =>
       obtain ⟨k, u2, hk, rfl, rfl, rfl, hu2s, Hu2s, Hu2, Hb4⟩ := hrel
       have hsz4 := Hb4.u.size
       have Hbw4 := hI (Hb3.u.then' hsz3 Hb4.u)
       have dd := kept_cell' Hbw4.u Hd.u
       by_cases hlk : k < pd.length
       ·obtain ⟨c, hc⟩ : ∃ c, row[k]? = some c := ⟨row[k]'(by omega), List.getElem?_eq_getElem _⟩
        have hro := oBelow HR.u Hbw4.u
        obtain ⟨gr, _, e1, hgr, hgr'⟩ := oSome hro (by omega)
        simp only [Value.slice.injEq, true_and] at e1
        obtain ⟨rfl, rfl⟩ := e1
        have h2 := two_get (fun c : Cl => Value.int .i64 c.1) (fun c => Value.int .u8 c.2) row k c hc
        have d1 := oCell hro (j := k * 2) h2.1
        have d2 := oCell hro (j := k * 2 + 1) h2.2
        have Hoc := hI (Hok.u c (List.mem_of_getElem? hc))
        have Hxc : Hid ((rowX row)[k]? = some (cellT c)) := by show _ = _; unfold rowX; rw [List.getElem?_map, hc]; rfl
        have Htx := hI (fun wx : World => refText_any c wx Hoc.u)
        obtain ⟨c1, c2⟩ := c
        unfold clV at Htx
        simp only at d1 d2 Htx
        have hkr : (k : Int) < (row.length : Int) := by omega
        clear hro h2 hc
        by_cases hk0 : k = 0
        ·have hk1 : ¬ (0 : Int) < (k : Int) := by omega
         have Hk0 := hI hk0
         clear hk0
         go_wp2_with fail
         refine (Htx.u _).mono ?_
         rintro e w6 ⟨u6, rfl, hu6, hs6, hb6⟩
         have Hu6 : Hid (L (u2 ++ u6) = jpre 59 (rptX cells) i ++ jn 44 ((rowX row).take (k + 1))) := by
          show _ = _
          rw [L_append, Hu2.u, hu6, jn_pre Hxc.u, Hk0.u, jpre_zero]; simp [jn]
         have Hs6 : Hid ((u2 ++ u6).size ≤ 100 * i + 1 + 22 * (k + 1) ∧ (u2 ++ u6).size ≤ 810 + 22 * (k + 1)) := by
          have := Hu2s.u
          show _ ∧ _
          rw [size_L, L_append, List.length_append, L_length, L_length]; omega
         have Hb6 := hI (Hb4.u.then' hsz4 hb6)
         clear hu6 hb6
         go_wp2_with fail
         go_roundg (pd.length - (k + 1))
         case measure => omega
         case rel => exact ⟨k + 1, _, by omega, rfl, by go_num, rfl, Hs6.u.2, Hs6.u.1, Hu6.u, Hb6.u⟩
        ·have hk1 : (0 : Int) < (k : Int) := by omega
         go_wp2_with fail
         refine (Htx.u _).mono ?_
         rintro e w6 ⟨u6, rfl, hu6, hs6, hb6⟩
         have Hu6 : Hid (L (u2 ++ ⟨#[44]⟩ ++ u6) = jpre 59 (rptX cells) i ++ jn 44 ((rowX row).take (k + 1))) := by
          show _ = _
          rw [L_append, L_append, Hu2.u, hu6, jn_pre Hxc.u, jpre_pos (sep := 44) (i := k) (by omega), show L ⟨#[44]⟩ = [44] from rfl]; simp
         have Hs6 : Hid ((u2 ++ ⟨#[44]⟩ ++ u6).size ≤ 100 * i + 1 + 22 * (k + 1) ∧ (u2 ++ ⟨#[44]⟩ ++ u6).size ≤ 810 + 22 * (k + 1)) := by
          have := Hu2s.u
          show _ ∧ _
          rw [size_app, size_app]; show u2.size + 1 + u6.size ≤ _ ∧ u2.size + 1 + u6.size ≤ _; omega
         have Hb6 := hI (Hb4.u.then' hsz4 hb6)
         clear hu6 hb6
         go_wp2_with fail
         go_roundg (pd.length - (k + 1))
         case measure => omega
         case rel => exact ⟨k + 1, _, by omega, rfl, by go_num, rfl, Hs6.u.2, Hs6.u.1, Hu6.u, Hb6.u⟩
       ·obtain rfl : k = pd.length := by omega
        have Hu7 : Hid (L u2 = jn 59 ((rptX cells).take (i + 1))) := Hin.u _ HL1.u u2 (by rw [Hu2.u, List.take_of_length_le (by simp [rowX, hwid])])
        have hs7 : u2.size ≤ 100 * (i + 1) := by have := Hu2s.u; omega
        go_wp2_with fail
        go_roundg (cells.length - (i + 1))
        case measure => omega
        case rel => exact ⟨i + 1, u2, by omega, rfl, by go_num, rfl, hs7, Hu7.u, Hbw4.u⟩
     ·have hpos : (0 : Int) < (i : Int) := by omega
      have hposN : decide (0 < i) = true := by simp; omega
      rw [if_neg h0] at hu1
      clear h0
      go_wp2_with fail
      obtain ⟨W3, hW3⟩ : ∃ W3, wr = W3 := ⟨_, rfl⟩
      rw [hW3] at Hb3 hsz3 ⊢
      clear hW3
      go_loopg [12, 14] pd.length (fun m tv iv wx => ∃ k : Nat, ∃ u : ByteArray, k ≤ pd.length ∧ m = pd.length - k ∧ iv = .int .i64 k ∧ tv = .string u ∧ u.size ≤ 810 + 22 * k ∧ Hid (u.size ≤ 100 * i + 1 + 22 * k) ∧ Hid (L u = jpre 59 (rptX cells) i ++ jn 44 ((rowX row).take k)) ∧ Hid (Below W3.heap.size W3 wx))
      case atStart => exact ⟨0, (u ++ ⟨#[59]⟩), by omega, rfl, rfl, rfl, by rw [← hu1]; omega, (show _ ≤ _ from by rw [← hu1]; omega), (show _ = _ from by rw [← hu1, HL1.u]; simp [jn]), Below.refl _ _⟩
      case round =>
       obtain ⟨k, u2, hk, rfl, rfl, rfl, hu2s, Hu2s, Hu2, Hb4⟩ := hrel
       have hsz4 := Hb4.u.size
       have Hbw4 := hI (Hb3.u.then' hsz3 Hb4.u)
       have dd := kept_cell' Hbw4.u Hd.u
       by_cases hlk : k < pd.length
       ·obtain ⟨c, hc⟩ : ∃ c, row[k]? = some c := ⟨row[k]'(by omega), List.getElem?_eq_getElem _⟩
        have hro := oBelow HR.u Hbw4.u
        obtain ⟨gr, _, e1, hgr, hgr'⟩ := oSome hro (by omega)
        simp only [Value.slice.injEq, true_and] at e1
        obtain ⟨rfl, rfl⟩ := e1
        have h2 := two_get (fun c : Cl => Value.int .i64 c.1) (fun c => Value.int .u8 c.2) row k c hc
        have d1 := oCell hro (j := k * 2) h2.1
        have d2 := oCell hro (j := k * 2 + 1) h2.2
        have Hoc := hI (Hok.u c (List.mem_of_getElem? hc))
        have Hxc : Hid ((rowX row)[k]? = some (cellT c)) := by show _ = _; unfold rowX; rw [List.getElem?_map, hc]; rfl
        have Htx := hI (fun wx : World => refText_any c wx Hoc.u)
        obtain ⟨c1, c2⟩ := c
        unfold clV at Htx
        simp only at d1 d2 Htx
        have hkr : (k : Int) < (row.length : Int) := by omega
        clear hro h2 hc
        by_cases hk0 : k = 0
        ·have hk1 : ¬ (0 : Int) < (k : Int) := by omega
         have Hk0 := hI hk0
         clear hk0
         go_wp2_with fail
         refine (Htx.u _).mono ?_
         rintro e w6 ⟨u6, rfl, hu6, hs6, hb6⟩
         have Hu6 : Hid (L (u2 ++ u6) = jpre 59 (rptX cells) i ++ jn 44 ((rowX row).take (k + 1))) := by
          show _ = _
          rw [L_append, Hu2.u, hu6, jn_pre Hxc.u, Hk0.u, jpre_zero]; simp [jn]
         have Hs6 : Hid ((u2 ++ u6).size ≤ 100 * i + 1 + 22 * (k + 1) ∧ (u2 ++ u6).size ≤ 810 + 22 * (k + 1)) := by
          have := Hu2s.u
          show _ ∧ _
          rw [size_L, L_append, List.length_append, L_length, L_length]; omega
         have Hb6 := hI (Hb4.u.then' hsz4 hb6)
         clear hu6 hb6
         go_wp2_with fail
         go_roundg (pd.length - (k + 1))
         case measure => omega
         case rel => exact ⟨k + 1, _, by omega, rfl, by go_num, rfl, Hs6.u.2, Hs6.u.1, Hu6.u, Hb6.u⟩
        ·have hk1 : (0 : Int) < (k : Int) := by omega
         go_wp2_with fail
         refine (Htx.u _).mono ?_
         rintro e w6 ⟨u6, rfl, hu6, hs6, hb6⟩
         have Hu6 : Hid (L (u2 ++ ⟨#[44]⟩ ++ u6) = jpre 59 (rptX cells) i ++ jn 44 ((rowX row).take (k + 1))) := by
          show _ = _
          rw [L_append, L_append, Hu2.u, hu6, jn_pre Hxc.u, jpre_pos (sep := 44) (i := k) (by omega), show L ⟨#[44]⟩ = [44] from rfl]; simp
         have Hs6 : Hid ((u2 ++ ⟨#[44]⟩ ++ u6).size ≤ 100 * i + 1 + 22 * (k + 1) ∧ (u2 ++ ⟨#[44]⟩ ++ u6).size ≤ 810 + 22 * (k + 1)) := by
          have := Hu2s.u
          show _ ∧ _
          rw [size_app, size_app]; show u2.size + 1 + u6.size ≤ _ ∧ u2.size + 1 + u6.size ≤ _; omega
         have Hb6 := hI (Hb4.u.then' hsz4 hb6)
         clear hu6 hb6
         go_wp2_with fail
         go_roundg (pd.length - (k + 1))
         case measure => omega
         case rel => exact ⟨k + 1, _, by omega, rfl, by go_num, rfl, Hs6.u.2, Hs6.u.1, Hu6.u, Hb6.u⟩
       ·obtain rfl : k = pd.length := by omega
        have Hu7 : Hid (L u2 = jn 59 ((rptX cells).take (i + 1))) := Hin.u _ HL1.u u2 (by rw [Hu2.u, List.take_of_length_le (by simp [rowX, hwid])])
        have hs7 : u2.size ≤ 100 * (i + 1) := by have := Hu2s.u; omega
        go_wp2_with fail
        go_roundg (cells.length - (i + 1))
        case measure => omega
        case rel => exact ⟨i + 1, u2, by omega, rfl, by go_num, rfl, hs7, Hu7.u, Hbw4.u⟩
    ·obtain rfl : i = cells.length := by omega
     have Hfin : Hid (L u = rptT (shC b (pdv pd) pss)) := by
      show _ = _
      rw [Hu.u, Hcells.u]
      unfold rptT
      rw [List.take_of_length_le (by simp [rptX])]
     go_wp2_with fail
     go_ret2
     exact ⟨.inr ⟨Hno.u, u, rfl, Hfin.u⟩, Hb2.u.then' hsz2 Hb3.u⟩
theorem info_part : (Tryz.prog.info? 197).map (fun i => (i.zero, i.size, i.bytes)) = some (some (.agg #[.int .u8 0, .int .i64 0]), 2, 16) := by kernel_rfl
theorem own_ne' {w : World} {B : Nat} {e : TypeId} {size : Nat} {v : Value} {n : Nat} {xs : List Value} (h : w.ownsRow B e size v n xs) {b : Nat} (hb : b < B) : some b ≠ v.ownBlock :=
 fun e => by have := (h.lt b e.symm).1; omega
theorem RdR.push {b : Nat} {t : ByteArray} {v v1 v2 : Value} {w W w5 : World} {a : Nat} {ps : List Pt} (h : RdR b t v w W a v1 ps) (o : Obj) (s n : Int)
  (hown : w5.ownsRow (b + 1) 197 2 v2 (ps.length + 1) (cellsP ps ++ [.int .u8 s, .int .i64 n])) (hgr : (W.alloc o).grownBy w5 v1.ownBlock)
  (hat : v2.ownBlock = v1.ownBlock ∨ v2.ownBlock = some (W.alloc o).heap.size) (hc : ps.length + 1 ≤ a) : RdR b t v w (w5.setCell ⟨b, 2, none⟩ v2) a v2 (ps ++ [(s, n)]) := by
 have hne : some b ≠ v1.ownBlock := fun e => by have := (h.rd.own.lt b e.symm).1; omega
 refine h.trans ⟨⟨?_, ?_, h.rd.le, by simpa using hc, h.rd.sz⟩, ?_, ?_⟩
 ·have := ((h.rd.blk.alloc o).grown hgr hne).set 2 v2
  simpa using this
 ·rw [cellsP_append]
  have := ownsRow_setCell_below hown (a := ⟨b, 2, none⟩) (by simp) v2
  simpa [cellsP] using this
 ·exact (((Frm.refl _ _ _).alloc (Nat.le_refl _) o).grown hgr (by simp) (fun k hk => .inr (.inr hk.symm))).setCell (.inr (.inl rfl)) _
 ·rcases hat with e | e
  ·exact .inl e
  ·exact .inr (fun k hk => by rw [e] at hk; simp at hk; omega)
theorem num_yes {l ds l' : List UInt8} (h : Dg 18 l ds l') (h0 : 0 < ds.length) : Fac l true l' [(48, val ds)] := by
 rw [h.eq]
 exact fac_opnd (.inl ⟨h0, h.le, h.dig, rfl⟩) (fun d k i => plc_number ds h.dig h0 h.le l' h.stop d k i)
theorem num_no {l ds l' : List UInt8} (h : Dg 18 l ds l') (h0 : ¬ 0 < ds.length) (h1 : ¬ hd l = 32) (h2 : ¬ hd l = 45) (h3 : ¬ hd l = 40) (h5 : selB (hd l) = false) (h6 : oldB (hd l) = false) (ps : List Pt) : Fac l false l' ps := by
 obtain ⟨h4, rfl⟩ := dg_none h h0 (by omega)
 exact ⟨[], rfl, (fun h0 => by cases h0), fun _ d k i _ => by rw [plc_fail6 l h1 h2 h3 h4 h5 h6]; simp⟩
theorem sel_yes {c : UInt8} (hc : selB c.toNat = true) {r ds l' : List UInt8} (h : Dg 2 r ds l') (h0 : 0 < ds.length) : Fac (c :: r) true l' [((c.toNat : Int), val ds)] := by
 rw [h.eq]
 refine fac_opnd (e := c :: ds) (.inr ⟨c, ds, rfl, h0, h.dig, .inl ⟨hc, h.le⟩, rfl⟩) (fun d k i => ?_)
 rw [List.cons_append, plc_sel1 hc, plc_sel ds h.dig h0 h.le l' h.stop]
 congr 1
 simp; omega
theorem sel_no {c : UInt8} (hc : selB c.toNat = true) {r ds l' : List UInt8} (h : Dg 2 r ds l') (h0 : ¬ 0 < ds.length) (ps : List Pt) : Fac (c :: r) false l' ps := by
 obtain ⟨h4, rfl⟩ := dg_none h h0 (by omega)
 exact ⟨[c], rfl, (fun h0 => by cases h0), fun _ d k i _ => by rw [plc_sel1 hc, plc_fail8 r h4]; simp⟩
theorem old_yes {c : UInt8} (hc : oldB c.toNat = true) {r ds l' : List UInt8} (h : Dg 1 r ds l') (h0 : 0 < ds.length) : Fac (c :: r) true l' [((c.toNat : Int), val ds)] := by
 have hl : ds.length = 1 := by have := h.le; omega
 obtain ⟨x, rfl⟩ := List.length_eq_one_iff.1 hl
 rw [h.eq]
 refine fac_opnd (e := c :: [x]) (.inr ⟨c, [x], rfl, h0, h.dig, .inr ⟨hc, hl⟩, rfl⟩) (fun d k i => ?_)
 rw [List.cons_append, plc_old1 hc, List.cons_append, List.nil_append, plc_old x (h.dig x (by simp))]
 congr 1
 simp; omega
theorem old_no {c : UInt8} (hc : oldB c.toNat = true) {r ds l' : List UInt8} (h : Dg 1 r ds l') (h0 : ¬ 0 < ds.length) (ps : List Pt) : Fac (c :: r) false l' ps := by
 obtain ⟨h4, rfl⟩ := dg_none h h0 (by omega)
 exact ⟨[c], rfl, (fun h0 => by cases h0), fun _ d k i _ => by rw [plc_old1 hc, plc_fail9 r h4]; simp⟩
theorem operand_num (b : Nat) (t : ByteArray) (p : Nat) (v : Value) (ps : List Pt) (w : World) (h : Rd w b t p v ps) (h1 : ¬ hd ((L t).drop p) = 32) (h2 : ¬ hd ((L t).drop p) = 45) (h3 : ¬ hd ((L t).drop p) = 40) (h5 : selB (hd ((L t).drop p)) = false) (h6 : oldB (hd ((L t).drop p)) = false) :
  Calls Tryz.prog 218 #[.pointer (some ⟨b, 0, none⟩)] w fun e w' => ∃ ok p' v' ps', e = .returned (.bool ok) ∧ Fac ((L t).drop p) ok ((L t).drop p') ps' ∧ p + ps'.length ≤ p' ∧ RdR b t v w w' p' v' (ps ++ ps') := by
 obtain ⟨ii, hi, hz0, hz1, hz2⟩ := info_parts info_part
 have hsz := h.sz
 have H := hI h
 have H1 := hI h1
 have H2 := hI h2
 have H3 := hI h3
 have H5 := hI h5
 have H6 := hI h6
 clear h h1 h2 h3 h5 h6
 go_enter Tryz.func218, Tryz.ntmps218
 go_wp2_with fail
 refine (next_any b t p v ps _ H.u).mono ?_
 rintro e w1 ⟨p1, x1, rfl, hr1, hs1⟩
 have Heq := hI (skp_same hs1 H1.u)
 rw [← Heq.u]
 obtain ⟨c, hc⟩ : ∃ c, hd ((L t).drop p) = c := ⟨_, rfl⟩
 have h5 := H5.u
 have h6 := H6.u
 rw [hc] at h5 h6 ⊢
 have n64 : (c == 64) = false := by simp [selB] at h5 ⊢; omega
 have n33 : (c == 33) = false := by simp [selB] at h5 ⊢; omega
 have n35 : (c == 35) = false := by simp [selB] at h5 ⊢; omega
 have n36 : (c == 36) = false := by simp [oldB] at h6 ⊢; omega
 have n60 : (c == 60) = false := by simp [oldB] at h6 ⊢; omega
 have Hr1 := hI hr1
 have Hs1 := hI hs1
 clear h5 h6 hc hr1 hs1
 go_wp2_with fail
 refine (digits_any b t p1 v ps 18 _ Hr1.u.rd (by omega)).mono ?_
 rintro e w2 ⟨ds, p2, rfl, hg2, he2, hr2⟩
 rw [← Heq.u] at hg2
 have Hg2 := hI hg2
 have He2 := hI he2
 have Hr2 := hI (Hr1.u.trans hr2)
 clear hg2 he2 hr2
 by_cases hd0 : 0 < ds.length
 ·have e1 : decide (0 < ds.length) = true := decide_eq_true hd0
  rw [e1]
  clear e1
  have Hf := hI (num_yes Hg2.u hd0)
  have hcnt := Hr2.u.rd.cnt
  have hle := Hr2.u.rd.le
  have Hc : Hid (ps.length + 1 ≤ p2) := by have := H.u.cnt; have := Hs1.u.le; have := He2.u; show _ ≤ _; omega
  obtain ⟨ao, cap, hv⟩ := oForm Hr2.u.rd.own
  subst hv
  have c2 := Hr2.u.rd.c2
  have z2 := Hr2.u.rd.z2
  have hbl := Hr2.u.rd.blk.lt
  have Hd0 := hI hd0
  clear hd0
  go_wp2_with (first
   | (at_builtin; refine wpList_append_own_at _ rfl (.tmp 46) (.tmp 50) 163 rfl (b + 1) 197 ii (.agg #[.int .u8 0, .int .i64 0]) 2 16 Tryz.underlying163 hi hz0 hz1 hz2 rfl (by decide) (.slice ao ps.length cap) ps.length _ rfl (Hr2.u.rd.own.alloc _) ⟨w2.heap.size, 0, none⟩ 1 1 [.int .u8 48, .int .i64 (val ds)] rfl rfl (cell_two_new' _ _ (by simp) _ _ _) (fun x hx => by simp at hx; rcases hx with rfl | rfl <;> rfl) (by unfold maxLen; omega) (by omega) (by simp; omega) ?_; intro v5 w5 hown5 hgr5 _ hat5; obtain ⟨gf, cf, rfl, hgf, hgf'⟩ := oSome hown5 (Nat.succ_pos _); have HB5 := hI ((Hr2.u.rd.blk.alloc _).grown hgr5 (own_ne' Hr2.u.rd.own (Nat.lt_succ_self b))); have y2 := HB5.u.frozen 2; have y3 := HB5.u.cell 2; simp only [List.getElem?_toArray, List.getElem?_cons_zero, List.getElem?_cons_succ] at y3; have Hown5 := hI hown5; have Hgr5 := hI hgr5; have Hat5 := hI hat5; clear hown5 hgr5 hat5 c2 z2))
  go_ret
  exact ⟨true, p2, _, _, rfl, Hf.u, by have := Hs1.u.le; have := He2.u; have := Hd0.u; simp; omega, Hr2.u.push _ 48 (val ds) Hown5.u Hgr5.u Hat5.u Hc.u⟩
 ·have e1 : decide (0 < ds.length) = false := decide_eq_false hd0
  rw [e1]
  clear e1
  have Hf := hI (num_no Hg2.u hd0 H1.u H2.u H3.u H5.u H6.u [])
  clear hd0
  go_wp2_with fail
  go_ret
  exact ⟨false, p2, v, [], rfl, Hf.u, by have := Hs1.u.le; have := He2.u; simp; omega, by rw [List.append_nil]; exact Hr2.u⟩
end Go.Proofs.YtdchbenfccofpaaGreatDoor
