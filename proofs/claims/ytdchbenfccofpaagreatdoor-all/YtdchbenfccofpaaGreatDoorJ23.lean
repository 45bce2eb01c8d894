/- Own texts of the theorem in YtdchbenfccofpaaGreatDoorWAlY, part 23. -/
import Derived.Test.YtdchbenfccofpaaGreatDoorJ16
import Derived.Test.YtdchbenfccofpaaGreatDoorJ15
import Derived.Test.YtdchbenfccofpaaGreatDoorJ20
import Derived.Test.YtdchbenfccofpaaGreatDoorJ22
import Derived.Deep.AppendLies
import Derived.Deep.RegionLaw
import Derived.BigQuiet
import Derived.Test.YtdchbenfccofpaaGreatDoorJ18
import Derived.Test.YtdchbenfccofpaaGreatDoorJ13
import Derived.Test.YtdchbenfccofpaaGreatDoorJ08
import Derived.Deep.LoopGhost
import Derived.Deep.DeepCutAuto
import Derived.Deep.RegionWith
set_option maxRecDepth 100000
set_option maxHeartbeats 8000000
namespace Db
open Go
theorem opnd_det {e : List UInt8} {p q : List Pt} (h : Opnd e p) (k : Opnd e q) : p = q := by
 rcases h with ⟨_, _, h2, rfl⟩ | ⟨c, ds, rfl, h1, hd, hs, rfl⟩ <;> rcases k with ⟨_, _, k2, rfl⟩ | ⟨c', ds', k0, k1, kd, ks, rfl⟩
 ·rfl
 ·have := h2 c' (by rw [k0]; simp)
  exfalso
  rcases ks with ⟨ks, _⟩ | ⟨ks, _⟩
  ·rw [(sel_c ks).2.2.2] at this; cases this
  ·rw [(old_c ks).2.2.2.1] at this; cases this
 ·have := k2 c (by simp)
  exfalso
  rcases hs with ⟨ks, _⟩ | ⟨ks, _⟩
  ·rw [(sel_c ks).2.2.2] at this; cases this
  ·rw [(old_c ks).2.2.2.1] at this; cases this
 ·simp only [List.cons.injEq] at k0
  obtain ⟨rfl, rfl⟩ := k0
  rfl
theorem wf_det {n : Nat} : ∀ {m : Nat} {e : List UInt8} {p q : List Pt}, Wf n e p → Wf m e q → p = q := by
 induction n with
 | zero => intro m e p q h; exact absurd h (by simp [Wf])
 | succ n ih =>
  intro m e p q h k
  cases m with
  | zero => exact absurd k (by simp [Wf])
  | succ m =>
   rcases h with ⟨h0, h⟩ | ⟨h0, h⟩ | ⟨h0, x, h, rfl⟩ | ⟨h0, x, y, h, h', rfl⟩ <;> rcases k with ⟨k0, k⟩ | ⟨k0, k⟩ | ⟨k0, x', k, rfl⟩ | ⟨k0, x', y', k, k', rfl⟩
   all_goals first
    | (exfalso; rw [h0] at k0; simp [opB] at k0; done)
    | (exfalso; rw [k0] at h0; simp [opB] at h0; done)
    | exact opnd_det h k
    | exact ih h k
    | (rw [ih h k, ih h' k'])
    | (rw [ih h k])
theorem seg_inj {a b c d : List UInt8} (ha : dayS a) (hc : dayS c) (h : a ++ 45 :: b = c ++ 45 :: d) : a = c ∧ b = d := by
 have h1 := congrArg (fun l => split l 45) h
 have na := dayS_ne ha 45 rfl
 have nc := dayS_ne hc 45 rfl
 simp only [split_cons 45 _ _ na, split_cons 45 _ _ nc] at h1
 simp only [List.cons.injEq] at h1
 obtain ⟨rfl, _⟩ := h1
 have h2 := List.append_cancel_left h
 simp only [List.cons.injEq, true_and] at h2
 exact ⟨rfl, h2⟩
theorem form_one {l : List UInt8} {pd pd' : List (List UInt8 × List UInt8)} {rows rows' : List (List UInt8)} {pss pss' : List (List Pt)} (h : Form l pd rows pss) (k : Form l pd' rows' pss') : pd = pd' ∧ pss = pss' := by
 obtain ⟨x, y, h1, h2, h3⟩ := h.sht.parts
 obtain ⟨x', y', k1, k2, k3⟩ := k.sht.parts
 rw [h1] at k1
 simp only [List.cons.injEq, and_true] at k1
 obtain ⟨rfl, rfl⟩ := k1
 rw [h2] at k2
 rw [h3] at k3
 subst k3
 constructor
 ·have hd := h.sht.days
  have kd := k.sht.days
  clear h k h1 h2 h3
  induction pd generalizing pd' with
  | nil => cases pd' with
   | nil => rfl
   | cons a r => simp at k2
  | cons a r ih =>
   cases pd' with
   | nil => simp at k2
   | cons a' r' =>
    simp only [List.map_cons, List.cons.injEq] at k2
    have h4 := seg_inj (hd a (by simp)).1 (kd a' (by simp)).1 k2.1
    rw [ih k2.2 (fun p hp => hd p (by simp [hp])) (fun p hp => kd p (by simp [hp]))]
    obtain ⟨a1, a2⟩ := a
    obtain ⟨b1, b2⟩ := a'
    simp only at h4
    rw [h4.1, h4.2]
 ·have hl : pss.length = pss'.length := by rw [← h.len, ← k.len]
  refine List.ext_getElem? fun i => ?_
  by_cases hi : i < pss.length
  ·obtain ⟨p, hp⟩ : ∃ p, pss[i]? = some p := ⟨pss[i], List.getElem?_eq_getElem hi⟩
   obtain ⟨q, hq⟩ : ∃ q, pss'[i]? = some q := ⟨pss'[i]'(by omega), List.getElem?_eq_getElem _⟩
   obtain ⟨e, he⟩ : ∃ e, rows[i]? = some e := ⟨rows[i]'(by rw [h.len]; exact hi), List.getElem?_eq_getElem _⟩
   obtain ⟨n, hn⟩ := (h.row i e p he hp).wf
   obtain ⟨m, hm⟩ := (k.row i e q he hq).wf
   rw [hp, hq, wf_det hn hm]
  ·rw [List.getElem?_eq_none (by omega), List.getElem?_eq_none (by omega)]
end Db
namespace Go.Proofs.YtdchbenfccofpaaGreatDoor
open Go.RowKit Db
def cellsK (l : List (ByteArray × ByteArray)) : List Value := l.flatMap fun c => [.string c.1, .string c.2]
theorem info_asked : (Tryz.prog.info? 151).map (fun i => (i.zero, i.size, i.bytes)) = some (some (.agg #[.string ⟨#[]⟩, .string ⟨#[]⟩]), 2, 32) := by kernel_rfl
theorem comp_one {s u u' : ByteArray} {er er' : Int} (h : CompIs s u er) (k : CompIs s u' er') : u = u' := by
 rcases h with ⟨h1, h2, h3⟩ | ⟨h1, h2, h3, h4⟩ | ⟨h1, pd, rows, pss, pl, hf, ho, h⟩ <;> rcases k with ⟨k1, k2, k3⟩ | ⟨k1, k2, k3, k4⟩ | ⟨k1, pd', rows', pss', pl', hf', ho', k⟩
 ·rw [h3, k3]
 ·omega
 ·omega
 ·omega
 ·rw [h4, k4]
 ·rw [hf'.plc] at h3; omega
 ·omega
 ·rw [hf.plc] at k3; omega
 ·obtain ⟨rfl, rfl⟩ := form_one hf hf'
  rw [ho] at ho'
  simp only [Prod.mk.injEq] at ho'
  obtain ⟨rfl, rfl⟩ := ho'
  rcases h with ⟨h2, h3⟩ | ⟨h2, h3, _⟩ <;> rcases k with ⟨k2, k3⟩ | ⟨k2, k3, _⟩
  ·rw [h3, k3]
  ·omega
  ·omega
  ·exact L_inj (h3.trans k3.symm)
theorem code_any (B wd q c : Nat) (v0 v2 v3 vb vc : Value) (s : Bk) (cs : List (ByteArray × ByteArray)) (kd bk a b : Int) (ao : Option Addr) (n cap : Nat) (t : ByteArray) (w : World) (hwb : Blk w wd #[vb, vc] 48) (hBd : B ≤ wd) (hcs : w.ownsRow B 151 2 vc cs.length (cellsK cs)) (hok : ∀ x ∈ cs, ∃ er, CompIs x.1 x.2 er) (hq : Blk w q #[v0, .pointer (some ⟨c, 0, none⟩), v2, v3] 30) (h : Rfd w B c s) (hm : t.size ≤ maxLen) (ht : Tab w) (hfew : cs.length ≤ 2000000000000) :
  Calls Tryz.prog 54 #[.pointer (some ⟨wd, 0, none⟩), .pointer (some ⟨q, 0, none⟩), .agg #[.int .i64 kd, .int .i64 bk, .int .i64 a, .int .i64 b, .slice ao n cap, .string t]] w fun e w' => e = .returned (.bool true) ∧ ∃ vc' u er, CompIs t u er ∧ Blk w' wd #[vb, vc'] 48 ∧ w'.ownsRow B 151 2 vc' (cs.length + 1) (cellsK (cs ++ [(t, u)])) ∧ FrX (fun k => k < w.heap.size ∧ ¬ (k = wd ∨ vc.ownBlock = some k)) B [48, 151] w w' ∧ (vc'.ownBlock = vc.ownBlock ∨ ∀ k, vc'.ownBlock = some k → w.heap.size ≤ k) := by
 obtain ⟨ia, hia, ha0, ha1, ha2⟩ := info_parts info_asked
 obtain ⟨ac, cc, rfl⟩ := oForm hcs
 obtain ⟨bx, hbx⟩ : ∃ bx, w.heap.size = bx := ⟨_, rfl⟩
 obtain ⟨W, hW⟩ : ∃ W, w.alloc (.cells #[.int .i64 kd, .int .i64 bk, .int .i64 a, .int .i64 b, .slice ao n cap, .string t] 33) = W := ⟨_, rfl⟩
 have HX : Hid (Blk W bx #[.int .i64 kd, .int .i64 bk, .int .i64 a, .int .i64 b, .slice ao n cap, .string t] 33) := by rw [← hW, ← hbx]; exact Blk.new _ _ _
 have Hb0 : Hid (Below w.heap.size w W) := by rw [← hW]; exact (Below.refl _ _).alloc (Nat.le_refl _) _
 have hWs : w.heap.size ≤ W.heap.size := Hb0.u.size
 have HR0 : Hid (Rfd W B c s) := by
  obtain ⟨vp, vc, vt, tv, h1⟩ := h
  exact ⟨_, _, _, _, h1.kept Hb0.u⟩
 have Hc := hI (compiled_any B q c v0 v2 v3 _ s kd bk a b ao n cap t W (hq.kept Hb0.u) HR0.u hm (ht.below Hb0.u))
 have Hd := hI (fun (wx : World) (hb : Below w.heap.size w wx) => dayCompile_any t wx hm (ht.below hb))
 have HWB := hI hwb
 have HCS := hI hcs
 have HOK := hI hok
 have x0 := HX.u.cell 0
 have x1 := HX.u.cell 1
 have x2 := HX.u.cell 2
 have x3 := HX.u.cell 3
 have x4 := HX.u.cell 4
 have x5 := HX.u.cell 5
 simp only [List.getElem?_toArray, List.getElem?_cons_zero, List.getElem?_cons_succ] at x0 x1 x2 x3 x4 x5
 clear hwb hcs hok hq h ht
 go_enter Tryz.func54, Tryz.ntmps54
 go_wp2_with fail
 try rw [hW]
 try rw [hbx]
 refine Hc.u.mono ?_
 rintro e w1 ⟨rfl, hb1⟩
 have k5 := (HX.u.kept hb1).cell 5
 simp only [List.getElem?_toArray, List.getElem?_cons_zero, List.getElem?_cons_succ] at k5
 have HX1 := hI (HX.u.kept hb1)
 have Hb1 := hI (Hb0.u.then' hWs hb1)
 clear hb1 x0 x1 x2 x3 x4 x5
 go_wp2_with fail
 refine (Hd.u w1 Hb1.u).mono ?_
 rintro e w2 ⟨u, er, rfl, hu, hb2⟩
 have HU := hI hu
 have HX2 := hI (HX1.u.kept hb2)
 have Hb2 := hI (Hb1.u.then' Hb1.u.size hb2)
 have hs2 : w.heap.size ≤ w2.heap.size := Hb2.u.size
 have HWB2 := hI (HWB.u.kept Hb2.u)
 have HCS2 := hI (oBelow HCS.u Hb2.u)
 clear hu hb2 k5
 go_wp2_with fail
 go_loopg [10] cs.length (fun m vi wr => ∃ j : Nat, j ≤ cs.length ∧ m = cs.length - j ∧ vi = .int .i64 j ∧ Hid (Below w2.heap.size w2 wr))
 case atStart => exact ⟨0, by omega, rfl, rfl, Below.refl _ _⟩
 case round =>
  obtain ⟨j, hj, rfl, rfl, Hb⟩ := hrel
  have hbk := Hb.u
  have HX3 := hI (HX2.u.kept hbk)
  have HWB3 := hI (HWB2.u.kept hbk)
  have HCS3 := hI (oBelow HCS2.u hbk)
  have y5 := HX3.u.cell 5
  have ly := HX3.u.lt
  have w1' := HWB3.u.cell 1
  have lw := HWB3.u.lt
  simp only [List.getElem?_toArray, List.getElem?_cons_zero, List.getElem?_cons_succ] at y5 w1'
  clear hbk
  by_cases hlt : j < cs.length
  ·obtain ⟨⟨ct, cu⟩, hx⟩ : ∃ x, cs[j]? = some x := ⟨cs[j], List.getElem?_eq_getElem hlt⟩
   obtain ⟨g, _, e1, hg, hg'⟩ := oSome HCS3.u (by omega)
   simp only [Value.slice.injEq, true_and] at e1
   obtain ⟨rfl, rfl⟩ := e1
   have h2 := two_get (fun a : ByteArray × ByteArray => Value.string a.1) (fun a => .string a.2) cs j _ hx
   have d1 := oCell HCS3.u (j := j * 2) h2.1
   have d2 := oCell HCS3.u (j := j * 2 + 1) h2.2
   have hcu : ct = t → cu = u := by
    rintro rfl
    obtain ⟨er', hc'⟩ := HOK.u _ (List.mem_of_getElem? hx)
    exact comp_one hc' HU.u
   simp only at d1 d2
   clear h2 hx
   by_cases hct : ct = t
   ·obtain rfl := hcu hct
    subst hct
    go_upto_region 6 with fail
    go_quiet (fail)
    go_wp2_with fail
    go_roundg (cs.length - (j + 1))
    case measure => omega
    case rel => exact ⟨j + 1, by omega, rfl, by go_num, Hb.u.drewN _⟩
   ·have n1 : (ct.toList == t.toList) = false := by rw [beq_eq_false_iff_ne, ByteArray.toList_eq, ByteArray.toList_eq]; exact fun e => hct (L_inj e)
    go_upto_region 6 with fail
    go_quiet (fail)
    go_wp2_with fail
    go_roundg (cs.length - (j + 1))
    case measure => omega
    case rel => exact ⟨j + 1, by omega, rfl, by go_num, Hb.u.drewN _⟩
  ·obtain rfl : j = cs.length := by omega
   have Hnb : Hid (Blk (wr.alloc (.cells #[.string t, .string u] 151)) wr.heap.size #[.string t, .string u] 151) := Blk.new _ _ _
   have hne1 : wr.heap.size ≠ wd := by omega
   have hne2 : wr.heap.size ≠ bx := by omega
   have z1' := HWB3.u.frozen 1
   have hbxw : bx ≠ wd := by
    intro e
    have := HWB.u.lt
    omega
   go_upto_region 8 with fail
   go_region_law (refine step_append_lies _ rfl (.tmp 56) (.tmp 61) 46 rfl B 151 ia (.agg #[.string ⟨#[]⟩, .string ⟨#[]⟩]) 2 32 Tryz.underlying46 hia ha0 ha1 ha2 rfl (by decide) (.slice ac cs.length cc) cs.length _ (by simp [Act.eval]) (by first | exact (HCS3.u.alloc _).drew | exact (HCS3.u.alloc _)) ⟨wr.heap.size, 0, none⟩ 1 1 [.string t, .string u] (by simp [Act.eval]) rfl (World.news_of_block (by exact Hnb.u)) (fun x hx => by simp at hx; rcases hx with rfl | rfl <;> rfl) (by decide) (by unfold maxLen; omega) (by omega) (by simp <;> omega) (wr.heap.size + 1) (by simp) ?_; intro gf cf w5 hown5 hgr5 hat5 hlt5; have hblk5 := Blk.grown (cs := #[vb, .slice ac cs.length cc]) (T := 48) (b := wd) (by exact (HWB3.u.alloc _)) hgr5 (blk_own_ne HWB3.u HCS3.u (by decide)); have c5 := hblk5.cell 1; have z5 := hblk5.frozen 1; have l5 := hblk5.lt; simp only [List.getElem?_toArray, List.getElem?_cons_zero, List.getElem?_cons_succ] at c5; have Hblk5 := hI hblk5; have Hown5 := hI hown5; have Hgr5 := hI hgr5; have Hat5 := hI hat5; clear hblk5 hown5 hgr5 hat5)
   all_goals
    go_wp2_with fail
    go_ret
    have hbr := Hb2.u.then' hs2 Hb.u
    have htc : ∀ k, (Value.slice ac cs.length cc).ownBlock = some k → B ≤ k ∧ Tg (wr.alloc (Obj.cells #[Value.string t, Value.string u] 151)).drew k 151 := fun k hk => ⟨(oTg HCS3.u k hk).1, tg_alloc (oTg HCS3.u k hk).2 _⟩
    have g1 : FrX (fun k => k < w.heap.size ∧ ¬ (k = wd ∨ (Value.slice ac cs.length cc).ownBlock = some k)) B [48, 151] w w5 := (((FrX.of_below hbr).alloc _).drew).grown Hgr5.u (T := 151) (by simp) htc (fun k hk h => h.2 (.inr hk))
    have g2 := g1.setCell (p := ⟨wd, 1, none⟩) (T := 48) (by simp) Hblk5.u.tg hBd (fun h => h.2 (.inl rfl)) (.slice (some ⟨gf, 0, none⟩) (cs.length + 1) cf)
    have b6 := Hblk5.u.set 1 (.slice (some ⟨gf, 0, none⟩) (cs.length + 1) cf)
    have o6 := oFrT Hown5.u ((FrT.refl B [48] w5).setCell (p := ⟨wd, 1, none⟩) (T := 48) (by simp) Hblk5.u.tg hBd (.slice (some ⟨gf, 0, none⟩) (cs.length + 1) cf)) (by decide)
    simp only [List.setIfInBounds_toArray, List.set_cons_zero, List.set_cons_succ] at b6
    have hat : (Value.slice (some ⟨gf, 0, none⟩) (cs.length + 1) cf).ownBlock = (Value.slice ac cs.length cc).ownBlock ∨ ∀ k, (Value.slice (some ⟨gf, 0, none⟩) (cs.length + 1) cf).ownBlock = some k → w.heap.size ≤ k := by
     rcases Hat5.u with e | e
     ·exact .inl e.symm
     ·right
      intro k hk
      simp [Value.ownBlock] at hk
      have := hbr.size
      omega
    refine ⟨rfl, .slice (some ⟨gf, 0, none⟩) (cs.length + 1) cf, u, er, HU.u, b6, ?_, g2, hat⟩
    have e7 : cellsK (cs ++ [(t, u)]) = cellsK cs ++ [.string t, .string u] := by simp [cellsK]
    rw [e7]
    exact o6
structure Pr where
 q : Nat
 D : Nat → Prop
 s : Bk
 n : Nat
structure Wld (w : World) (B wd : Nat) (vb vc : Value) (ps : List Pr) (cs : List (ByteArray × ByteArray)) (M : Nat) : Prop where
 blk : Blk w wd #[vb, vc] 48
 lo : B ≤ wd
 books : w.ownsRow B 25 1 vb ps.length (ps.map fun x => .pointer (some ⟨x.q, 0, none⟩))
 codes : w.ownsRow B 151 2 vc cs.length (cellsK cs)
 ok : ∀ x ∈ cs, ∃ er, CompIs x.1 x.2 er
 prs : ∀ x ∈ ps, PairD x.D w B x.q x.s x.n
 few : ∀ x ∈ ps, x.n ≤ 4 * M
 pl : ps.length ≤ M
 cl : cs.length ≤ M
 outd : ∀ x ∈ ps, ¬ x.D wd
 outb : ∀ x ∈ ps, ∀ k, vb.ownBlock = some k → ¬ x.D k
 outc : ∀ x ∈ ps, ∀ k, vc.ownBlock = some k → ¬ x.D k
 dis : ∀ (i j : Nat) (x y : Pr), ps[i]? = some x → ps[j]? = some y → i ≠ j → ∀ k, x.D k → ¬ y.D k
section
variable {w w' : World} {B wd : Nat} {vb vc : Value} {ps : List Pr} {cs : List (ByteArray × ByteArray)} {M : Nat}
theorem blk_kept {X : Nat → Prop} {B' : Nat} {Ts : List TypeId} (hf : FrX X B' Ts w w') {b : Nat} {cs : Array Value} {T : TypeId} (hb : Blk w b cs T) (hx : X b) : Blk w' b cs T := by
 have hlt := hb.lt
 unfold Blk at hb ⊢
 rw [hf.keep b hx hlt]; exact hb
theorem Wld.keep (h : Wld w B wd vb vc ps cs M) {X : Nat → Prop} {B' : Nat} {Ts : List TypeId} (f : FrX X B' Ts w w') (hl : 89 ∉ Ts) (h1 : X wd) (h2 : ∀ k, vb.ownBlock = some k → X k) (h3 : ∀ k, vc.ownBlock = some k → X k) (h4 : ∀ x ∈ ps, ∀ k, x.D k → X k) : Wld w' B wd vb vc ps cs M :=
 ⟨blk_kept f h.blk h1, h.lo, own_kept f h.books h2, own_kept f h.codes h3, h.ok, fun x hx => (h.prs x hx).other f hl (h4 x hx), h.few, h.pl, h.cl, h.outd, h.outb, h.outc, h.dis⟩
theorem Wld.kept (h : Wld w B wd vb vc ps cs M) (hb : Below w.heap.size w w') : Wld w' B wd vb vc ps cs M :=
 h.keep (FrX.of_below (X := fun _ => True) (B := 0) (Ts := []) hb) (by simp) trivial (fun _ _ => trivial) (fun _ _ => trivial) (fun _ _ _ _ => trivial)
theorem Wld.more (h : Wld w B wd vb vc ps cs M) : Wld w B wd vb vc ps cs (M + 1) :=
 ⟨h.blk, h.lo, h.books, h.codes, h.ok, h.prs, fun x hx => by have := h.few x hx; omega, by have := h.pl; omega, by have := h.cl; omega, h.outd, h.outb, h.outc, h.dis⟩
theorem Wld.stepi (h : Wld w B wd vb vc ps cs M) {i : Nat} {x : Pr} (hi : ps[i]? = some x) {s' : Bk} {n' : Nat} (hs : Stepd x.D w w' B x.q s' n') (hn : n' ≤ x.n + 4) :
   Wld w' B wd vb vc (ps.set i ⟨x.q, fun k => x.D k ∨ (w.heap.size ≤ k ∧ k < w'.heap.size), s', n'⟩) cs (M + 1) := by
 obtain ⟨hp, Ts, hl, _, _, _, f⟩ := hs
 have hx : x ∈ ps := List.mem_of_getElem? hi
 have hlt : i < ps.length := (List.getElem?_eq_some_iff.1 hi).1
 have lb := fun k hk => (own_lt' h.books k hk).2
 have lc := fun k hk => (own_lt' h.codes k hk).2
 have mem : ∀ z ∈ ps.set i ⟨x.q, fun k => x.D k ∨ (w.heap.size ≤ k ∧ k < w'.heap.size), s', n'⟩, z = ⟨x.q, fun k => x.D k ∨ (w.heap.size ≤ k ∧ k < w'.heap.size), s', n'⟩ ∨ ∃ j, j ≠ i ∧ ps[j]? = some z := by
   intro z hz
   obtain ⟨j, hj⟩ := List.mem_iff_getElem?.1 hz
   rw [List.getElem?_set] at hj
   by_cases e : i = j
   · subst e
     simp [hlt] at hj
     exact .inl hj.symm
   · rw [if_neg e] at hj
     exact .inr ⟨j, fun e' => e e'.symm, hj⟩
 refine ⟨blk_kept f h.blk ⟨h.blk.lt, h.outd x hx⟩, h.lo, ?_, own_kept f h.codes (fun k hk => ⟨lc k hk, h.outc x hx k hk⟩), h.ok, ?_, ?_, ?_, ?_, ?_, ?_, ?_, ?_⟩
 · have e1 : (ps.set i ⟨x.q, fun k => x.D k ∨ (w.heap.size ≤ k ∧ k < w'.heap.size), s', n'⟩).map (fun x => Value.pointer (some ⟨x.q, 0, none⟩)) = ps.map (fun x => Value.pointer (some ⟨x.q, 0, none⟩)) := by
     rw [List.map_set]
     apply List.ext_getElem?
     intro j
     rw [List.getElem?_set]
     by_cases e : i = j
     · subst e
       simp [hlt]
       obtain ⟨_, rfl⟩ := List.getElem?_eq_some_iff.1 hi
       rfl
     · rw [if_neg e]
   rw [e1, List.length_set]
   exact own_kept f h.books (fun k hk => ⟨lb k hk, h.outb x hx k hk⟩)
 · intro z hz
   rcases mem z hz with rfl | ⟨j, hj, hz⟩
   · exact hp
   · have hzm := List.mem_of_getElem? hz
     exact (h.prs z hzm).other f hl (fun k hk => ⟨(h.prs z hzm).top k hk, fun e => h.dis i j x z hi hz (fun e => hj e.symm) k e hk⟩)
 · intro z hz
   rcases mem z hz with rfl | ⟨j, hj, hz⟩
   · have := h.few x hx; simp only; omega
   · have := h.few z (List.mem_of_getElem? hz); omega
 · have := h.pl; rw [List.length_set]; omega
 · have := h.cl; omega
 · intro z hz
   rcases mem z hz with rfl | ⟨j, hj, hz⟩
   · rintro (e | e)
     · exact h.outd x hx e
     · have := h.blk.lt; omega
   · exact h.outd z (List.mem_of_getElem? hz)
 · intro z hz
   rcases mem z hz with rfl | ⟨j, hj, hz⟩
   · rintro k hk (e | e)
     · exact h.outb x hx k hk e
     · have := lb k hk; omega
   · exact h.outb z (List.mem_of_getElem? hz)
 · intro z hz
   rcases mem z hz with rfl | ⟨j, hj, hz⟩
   · rintro k hk (e | e)
     · exact h.outc x hx k hk e
     · have := lc k hk; omega
   · exact h.outc z (List.mem_of_getElem? hz)
 · intro a b y z hy hz hab k hk hk2
   rw [List.getElem?_set] at hy hz
   by_cases ea : i = a
   · subst ea
     simp [hlt] at hy
     subst hy
     rw [if_neg hab] at hz
     rcases hk with e | e
     · exact h.dis i b x z hi hz hab k e hk2
     · have := (h.prs z (List.mem_of_getElem? hz)).top k hk2; omega
   · rw [if_neg ea] at hy
     by_cases eb : i = b
     · subst eb
       simp [hlt] at hz
       subst hz
       rcases hk2 with e | e
       · exact h.dis a i y x hy hi hab k hk e
       · have := (h.prs y (List.mem_of_getElem? hy)).top k hk; omega
     · rw [if_neg eb] at hz
       exact h.dis a b y z hy hz hab k hk hk2
theorem Wld.coded (h : Wld w B wd vb vc ps cs M) {vc' : Value} {t u : ByteArray} {er : Int} (hu : CompIs t u er) (hb : Blk w' wd #[vb, vc'] 48) (hc : w'.ownsRow B 151 2 vc' (cs.length + 1) (cellsK (cs ++ [(t, u)])))
  (f : FrX (fun k => k < w.heap.size ∧ ¬ (k = wd ∨ vc.ownBlock = some k)) B [48, 151] w w') (hat : vc'.ownBlock = vc.ownBlock ∨ ∀ k, vc'.ownBlock = some k → w.heap.size ≤ k) : Wld w' B wd vb vc' ps (cs ++ [(t, u)]) (M + 1) := by
 refine ⟨hb, h.lo, own_kept f h.books (fun k hk => ⟨(own_lt' h.books k hk).2, ?_⟩), by simpa using hc, ?_, fun x hx => (h.prs x hx).other f (by decide) (fun k hk => ⟨(h.prs x hx).top k hk, ?_⟩), fun x hx => by have := h.few x hx; omega, by have := h.pl; omega, by have := h.cl; simp; omega, h.outd, h.outb, ?_, h.dis⟩
 ·rintro (rfl | e)
  ·exact absurd (ty_ne (oTg h.books _ hk).2 h.blk.tg) (by decide)
  ·exact absurd (ty_ne (oTg h.books _ hk).2 (oTg h.codes _ e).2) (by decide)
 ·intro x hx
  rcases List.mem_append.1 hx with hx | hx
  ·exact h.ok x hx
  ·simp only [List.mem_singleton] at hx
   subst hx
   exact ⟨er, hu⟩
 ·rintro (rfl | e)
  ·exact h.outd x hx hk
  ·exact h.outc x hx k e hk
 ·intro x hx k hk hd
  rcases hat with e | e
  ·exact h.outc x hx k (by rw [← e]; exact hk) hd
  ·have := e k hk; have := (h.prs x hx).top k hd; omega
theorem Wld.add {w1 wa : World} (h : Wld w B wd vb vc ps cs M) (hb : Below w.heap.size w w1) {D1 : Nat → Prop} {q : Nat} {s : Bk} (hp : PairD D1 w1 B q s 0) (hD : ∀ k, D1 k → w.heap.size ≤ k) {o : Obj} {vb2 : Value}
  (hgr : (w1.alloc o).grownBy wa vb.ownBlock) (hown : wa.ownsRow B 25 1 vb2 (ps.length + 1) (ps.map (fun x => Value.pointer (some ⟨x.q, 0, none⟩)) ++ [.pointer (some ⟨q, 0, none⟩)])) (hat : vb2.ownBlock = vb.ownBlock ∨ vb2.ownBlock = some (w1.alloc o).heap.size) :
  Wld (wa.setCell ⟨wd, 0, none⟩ vb2) B wd vb2 vc (ps ++ [⟨q, D1, s, 0⟩]) cs (M + 1) ∧ Below B w (wa.setCell ⟨wd, 0, none⟩ vb2) := by
 have h1 := h.kept hb
 have hs1 := hb.size
 have hb1 : Blk wa wd #[vb, vc] 48 := (h1.blk.alloc o).grown hgr (blk_own_ne h1.blk h1.books (by decide))
 have tgr : ∀ k, vb.ownBlock = some k → B ≤ k ∧ Tg (w1.alloc o) k 25 := fun k hk => ⟨(oTg h1.books k hk).1, tg_alloc (oTg h1.books k hk).2 _⟩
 have f : FrX (fun k => k < w1.heap.size ∧ ¬ (k = wd ∨ vb.ownBlock = some k)) B [48, 25] w1 (wa.setCell ⟨wd, 0, none⟩ vb2) :=
  (FrX.grown (T := 25) ((FrX.refl B _ w1).alloc o) hgr (by simp) tgr (fun k hk h => h.2 (.inr hk))).setCell (p := ⟨wd, 0, none⟩) (T := 48) (by simp) hb1.tg h.lo (fun h => h.2 (.inl rfl)) vb2
 have hown2 := oFrT hown ((FrT.refl B [48] wa).setCell (p := ⟨wd, 0, none⟩) (T := 48) (by simp) hb1.tg h.lo vb2) (by decide)
 have lb := fun k hk => (own_lt' h.books k hk).2
 have lc := fun k hk => (own_lt' h.codes k hk).2
 have lw := h.blk.lt
 have hBw : B ≤ w.heap.size := by have := h.lo; omega
 have atb : ∀ k, vb2.ownBlock = some k → vb.ownBlock = some k ∨ w1.heap.size < k + 1 := by
  intro k hk
  rcases hat with e | e
  ·exact .inl (by rw [← e]; exact hk)
  ·right; rw [e] at hk; simp at hk; omega
 refine ⟨⟨?_, h.lo, ?_, own_kept f h1.codes (fun k hk => ⟨Nat.lt_of_lt_of_le (lc k hk) hs1, ?_⟩), h.ok, ?_, ?_, ?_, ?_, ?_, ?_, ?_, ?_⟩, ?_⟩
 ·have := hb1.set 0 vb2
  simpa using this
 ·simpa using hown2
 ·rintro (rfl | e)
  ·exact absurd (ty_ne (oTg h.codes _ hk).2 h.blk.tg) (by decide)
  ·exact absurd (ty_ne (oTg h.codes _ hk).2 (oTg h.books _ e).2) (by decide)
 ·intro x hx
  rcases List.mem_append.1 hx with hx | hx
  ·refine (h1.prs x hx).other f (by decide) (fun k hk => ⟨(h1.prs x hx).top k hk, ?_⟩)
   rintro (rfl | e)
   ·exact h.outd x hx hk
   ·exact h.outb x hx k e hk
  ·simp only [List.mem_singleton] at hx
   subst hx
   refine hp.other f (by decide) (fun k hk => ⟨hp.top k hk, ?_⟩)
   have := hD k hk
   rintro (rfl | e)
   ·omega
   ·have := lb k e; omega
 ·intro x hx
  rcases List.mem_append.1 hx with hx | hx
  ·have := h.few x hx; omega
  ·simp only [List.mem_singleton] at hx
   subst hx
   simp
 ·have := h.pl; simp; omega
 ·have := h.cl; omega
 ·intro x hx
  rcases List.mem_append.1 hx with hx | hx
  ·exact h.outd x hx
  ·simp only [List.mem_singleton] at hx
   subst hx
   intro hd
   have := hD wd hd
   omega
 ·intro x hx k hk hd
  rcases List.mem_append.1 hx with hx | hx
  ·rcases atb k hk with e | e
   ·exact h.outb x hx k e hd
   ·have := (h1.prs x hx).top k hd; omega
  ·simp only [List.mem_singleton] at hx
   subst hx
   simp only at hd
   have e1 := hD k hd
   have e2 := hp.top k hd
   rcases atb k hk with e | e
   ·have := lb k e; omega
   ·omega
 ·intro x hx k hk hd
  rcases List.mem_append.1 hx with hx | hx
  ·exact h.outc x hx k hk hd
  ·simp only [List.mem_singleton] at hx
   subst hx
   have := hD k hd
   have := lc k hk
   omega
 ·intro i j x y hi hj hij k hx hy
  rw [List.getElem?_append] at hi hj
  split at hi
  ·split at hj
   ·exact h.dis i j x y hi hj hij k hx hy
   ·rename_i e1 e2
    have e3 : j - ps.length = 0 := by
     apply Classical.byContradiction
     intro e
     rw [List.getElem?_eq_none (by simp; omega)] at hj
     simp at hj
    rw [e3] at hj
    simp at hj
    subst hj
    have := hD k hy
    have := (h.prs x (List.mem_of_getElem? hi)).top k hx
    omega
  ·rename_i e1
   have e3 : i - ps.length = 0 := by
    apply Classical.byContradiction
    intro e
    rw [List.getElem?_eq_none (by simp; omega)] at hi
    simp at hi
   rw [e3] at hi
   simp at hi
   subst hi
   split at hj
   ·have := hD k hx
    have := (h.prs y (List.mem_of_getElem? hj)).top k hy
    omega
   ·rename_i e2
    have e4 : j - ps.length = 0 := by
     apply Classical.byContradiction
     intro e
     rw [List.getElem?_eq_none (by simp; omega)] at hj
     simp at hj
    omega
 ·exact (hb.mono hBw).trans (f.fr.below (by omega))
end
def lpck (c n : Int) : Int := (if c < 0 then -(c + 1) else c) % n
theorem lpck_in {c n : Int} (hn : 0 < n) : 0 ≤ lpck c n ∧ lpck c n < n := ⟨Int.emod_nonneg _ (by omega), Int.emod_lt_of_pos _ hn⟩
theorem lpick_any (c n : Int) (w : World) (h0 : -9223372036854775808 ≤ c) (h1 : c ≤ 9223372036854775807) (hn : 0 < n) (hn2 : n ≤ 9223372036854775807) :
  Calls Tryz.prog 53 #[.int .i64 c, .int .i64 n] w fun e w' => e = .returned (.int .i64 (lpck c n)) ∧ w' = w := by
 by_cases hc : c < 0
 ·have hp : lpck c n = (-(c + 1)) % n := by unfold lpck; rw [if_pos hc]
  have hp2 := lpck_in (c := c) hn
  have ht : Int.tmod (-(c + 1)) n = lpck c n := by rw [hp, Int.tmod_eq_emod_of_nonneg (by omega)]
  have hw1 : IntKind.i64.wrap (-(c + 1)) = -(c + 1) := by rw [IntKind.wrap_i64]; omega
  have hw2 : IntKind.i64.wrap (lpck c n) = lpck c n := by rw [IntKind.wrap_i64]; omega
  have hnz : ¬ n = 0 := by omega
  have hnz' : (n == 0) = false := by simpa using hnz
  go_enter Tryz.func53, Tryz.ntmps53
  go_wp2_with fail
  go_ret
  exact ⟨by first | rfl | (simp; done) | simp [hp], rfl⟩
 ·have hp : lpck c n = c % n := by unfold lpck; rw [if_neg hc]
  have hp2 := lpck_in (c := c) hn
  have ht : Int.tmod c n = lpck c n := by rw [hp, Int.tmod_eq_emod_of_nonneg (by omega)]
  have hw2 : IntKind.i64.wrap (lpck c n) = lpck c n := by rw [IntKind.wrap_i64]; omega
  have hnz : ¬ n = 0 := by omega
  have hnz' : (n == 0) = false := by simpa using hnz
  go_enter Tryz.func53, Tryz.ntmps53
  go_wp2_with fail
  go_ret
  exact ⟨by first | rfl | (simp; done) | simp [hp], rfl⟩
def CheckIs (s : ByteArray) (er pl : Int) : Prop :=
 (200 < s.size ∧ er = 1 ∧ pl = 0) ∨ (s.size ≤ 200 ∧ er = 2 ∧ plc 0 0 0 0 (L s) = pl ∧ 0 ≤ pl) ∨ (s.size ≤ 200 ∧ ∃ pd rows pss, Db.Form (L s) pd rows pss ∧ outc (pdv pd) pss = (er, pl))
theorem dayCheck_any (s : ByteArray) (w : World) (hm : s.size ≤ maxLen) :
  Calls Tryz.prog 39 #[.string s] w fun e w' => ∃ er pl : Int, e = .returned (.tuple #[.int .i64 er, .int .i64 pl]) ∧ CheckIs s er pl ∧ Below w.heap.size w w' := by
 by_cases hs : 200 < s.size
 ·go_enter Tryz.func39, Tryz.ntmps39
  go_wp2_with fail
  refine (read_long s _ hs hm).mono ?_
  rintro e w1 ⟨rfl, hb⟩
  have Hb := hI hb
  have hsz := hb.size
  clear hb
  go_wp2_with fail
  go_ret2
  exact ⟨1, 0, rfl, .inl ⟨hs, rfl, rfl⟩, Hb.u.alloc hsz _⟩
 ·have hs' : s.size ≤ 200 := by omega
  go_enter Tryz.func39, Tryz.ntmps39
  go_wp2_with fail
  refine (read_short s _ hs').mono ?_
  rintro e w1 ⟨hb, ⟨p, rfl, hp, hp0⟩ | ⟨vp, vr, pd, rows, pss, er, pl, rfl, hf, ho, hz, hok⟩⟩
  ·have Hb := hI hb
   have hsz := hb.size
   have Hc : Hid (CheckIs s 2 p) := .inr (.inl ⟨hs', rfl, hp, hp0⟩)
   clear hb hp
   go_wp2_with fail
   go_ret2
   exact ⟨2, p, rfl, Hc.u, Hb.u.alloc hsz _⟩
  ·have Hb := hI hb
   have hsz := hb.size
   have Hc : Hid (CheckIs s er pl) := .inr (.inr ⟨hs', pd, rows, pss, hf, ho⟩)
   have hvp : ∃ a n c, vp = .slice a n c := by
    by_cases h0 : er = 0
    ·obtain ⟨a, c, h⟩ := oForm (hok h0).1; exact ⟨_, _, _, h⟩
    ·exact ⟨_, _, _, (hz h0).1⟩
   have hvr : ∃ a n c, vr = .slice a n c := by
    by_cases h0 : er = 0
    ·obtain ⟨vs, hvs⟩ := (hok h0).2
     obtain ⟨a, c, h⟩ := oForm hvs.own; exact ⟨_, _, _, h⟩
    ·exact ⟨_, _, _, (hz h0).2⟩
   obtain ⟨a1, n1, k1, rfl⟩ := hvp
   obtain ⟨a2, n2, k2, rfl⟩ := hvr
   clear hb hf ho hz hok
   go_wp2_with fail
   go_ret2
   exact ⟨er, pl, rfl, Hc.u, Hb.u.alloc hsz _⟩
theorem refCheck_any (s : ByteArray) (w : World) (hm : s.size ≤ maxLen) (er pl : Int) (hc : CheckIs s er pl) :
  Calls Tryz.prog 89 #[.string s] w fun e w' => e = .returned (.tuple #[.int .i64 er, .int .i64 pl]) ∧ Below w.heap.size w w' := by
 rcases hc with ⟨hs, rfl, rfl⟩ | ⟨hs, rfl, hp, hp0⟩ | ⟨hs, pd, rows, pss, hf, ho⟩
 ·go_enter Tryz.func89, Tryz.ntmps89
  go_wp2_with fail
  refine (refRead_long s _ hs hm).mono ?_
  rintro e w1 ⟨rfl, hb⟩
  have Hb := hI hb
  have hsz := hb.size
  clear hb
  go_wp2_with fail
  go_ret2
  exact ⟨rfl, Hb.u.alloc hsz _⟩
 ·have Hp := hI hp
  clear hp
  go_enter Tryz.func89, Tryz.ntmps89
  go_wp2_with fail
  refine (refRead_form s _ hs (by rw [Hp.u]; exact hp0)).mono ?_
  rintro e w1 ⟨rfl, hb⟩
  rw [Hp.u]
  have Hb := hI hb
  have hsz := hb.size
  clear hb
  go_wp2_with fail
  go_ret2
  exact ⟨rfl, Hb.u.alloc hsz _⟩
 ·have Hf := hI hf
  have Ho := hI ho
  clear hf ho
  go_enter Tryz.func89, Tryz.ntmps89
  go_wp2_with fail
  refine (refRead_ok s _ hs pd rows pss Hf.u).mono ?_
  rintro e w1 ⟨a1, n1, k1, a2, n2, k2, a3, n3, k3, er', pl', rfl, ho', hb, _⟩
  have hh := Ho.u.symm.trans ho'
  simp only [Prod.mk.injEq] at hh
  obtain ⟨rfl, rfl⟩ := hh
  have Hb := hI hb
  have hsz := hb.size
  clear hb ho'
  go_wp2_with fail
  go_ret2
  exact ⟨rfl, Hb.u.alloc hsz _⟩
theorem checks_walk (a0 : ByteArray) (w0 : a0.size ≤ maxLen) (w : World) :
  Calls Tryz.prog 51 #[.string a0] w fun e w' => e = .returned (.bool true) ∧ Below w.heap.size w w' := by
 go_enter Tryz.func51, Tryz.ntmps51
 go_wp2_with fail
 refine (dayCheck_any a0 _ w0).mono ?_
 rintro e w1 ⟨er, pl, rfl, hc, hb1⟩
 have Hc := hI hc
 have Hb1 := hI hb1
 clear hc hb1
 go_wp2_with fail
 refine (refCheck_any a0 _ w0 er pl Hc.u).mono ?_
 rintro e w2 ⟨rfl, hb2⟩
 have Hb2 := hI (Hb1.u.then hb2)
 have e1 : (er == er) = true := by simp
 have e2 : (pl == pl) = true := by simp
 clear hb2
 go_wp2_with fail
 go_ret
 exact ⟨rfl, Hb2.u⟩
end Go.Proofs.YtdchbenfccofpaaGreatDoor
namespace Db
open Go
inductive Tp : List UInt8 → Int → Prop
 | stop {l : List UInt8} (h : ¬ (cut l).1 = 40) : Tp l (cut l).1
 | into {l : List UInt8} {o : Int} (h : (cut l).1 = 40) (k : Tp (cut l).2.2 o) : Tp l o
theorem cut_par_lt (l : List UInt8) (h : (cut l).1 = 40) : (cut l).2.2.length < l.length := by
 unfold cut at h ⊢
 split
 ·have := cutAt_lt l
  show (l.drop _).length < _
  rw [List.length_drop]
  omega
 ·split
  ·show (l.drop 1).length < _
   rw [List.length_drop]
   omega
  ·split
   ·show ((l.drop 1).take _).length < _
    rw [List.length_take, List.length_drop]
    omega
   ·rename_i h1 h2 h3
    rw [if_neg h1, if_neg h2, if_neg h3] at h
    cases h
theorem wf_tp {n : Nat} : ∀ {e : List UInt8} {ps : List Pt} {o : Int}, Wf n e ps → Tp e o → ∃ x, ShowR ps x ∧ x.2 = rkO o := by
 induction n with
 | zero => intro e ps o h; exact absurd h (by simp [Wf])
 | succ n ih =>
  intro e ps o h ht
  rcases h with ⟨h1, h⟩ | ⟨h1, h2⟩ | ⟨h1, p, h2, rfl⟩ | ⟨h1, p, r, h2, h3, rfl⟩
  ·obtain ⟨p, rfl, hp⟩ := opnd_opd h
   refine ⟨_, showR_leaf hp, ?_⟩
   cases ht with
   | stop _ => rw [h1]; rfl
   | into h _ => rw [h1] at h; cases h
  ·cases ht with
   | stop h => exact absurd h1 h
   | into _ k => exact ih h2 k
  ·obtain ⟨x, hx⟩ := wf_show h2
   refine ⟨_, showR_neg hx, ?_⟩
   cases ht with
   | stop _ => rw [h1]; rfl
   | into h _ => rw [h1] at h; cases h
  ·obtain ⟨x, hx⟩ := wf_show h2
   obtain ⟨y, hy⟩ := wf_show h3
   refine ⟨_, showR_bin h1 hx hy, ?_⟩
   cases ht with
   | stop _ => rw [rkO_op h1]
   | into h _ => rw [h] at h1; cases h1
theorem wf_size {n : Nat} : ∀ {e : List UInt8} {ps : List Pt} {x : Pc}, Wf n e ps → ShowR ps x → x.1.length ≤ 25 * ps.length := by
 induction n with
 | zero => intro e ps x h; exact absurd h (by simp [Wf])
 | succ n ih =>
  intro e ps x h hx
  rcases h with ⟨h1, h⟩ | ⟨h1, h2⟩ | ⟨h1, p, h2, rfl⟩ | ⟨h1, p, r, h2, h3, rfl⟩
  ·obtain ⟨p, rfl, hp⟩ := opnd_opd h
   rw [hx.uniq (showR_leaf hp), (opnd_word h).1]
   have : e.length ≤ 18 := by
    rcases h with ⟨_, h, _⟩ | ⟨c, ds, rfl, _, _, h, _⟩
    ·exact h
    ·rcases h with h | h <;> simp <;> omega
   have htl : ∀ l : List UInt8, (trm l).length ≤ l.length := by
    intro l
    induction l with
    | nil => simp [trm]
    | cons c t ih =>
     cases t with
     | nil => simp [trm]
     | cons d r =>
      unfold trm
      split
      ·exact Nat.le_trans ih (by simp)
      ·exact Nat.le_refl _
   have h3 := htl e
   have h4 := htl (e.drop 1)
   simp at h4
   split
   ·simp; omega
   ·simp; omega
  ·exact ih h2 hx
  ·obtain ⟨y, hy⟩ := wf_show h2
   rw [hx.uniq (showR_neg hy)]
   have := ih h2 hy
   have hb : (brk y 3).length ≤ y.1.length + 2 := by unfold brk; split <;> simp
   simp
   omega
  ·obtain ⟨y, hy⟩ := wf_show h2
   obtain ⟨z, hz⟩ := wf_show h3
   rw [hx.uniq (showR_bin h1 hy hz)]
   have h5 := ih h2 hy
   have h6 := ih h3 hz
   have hb : (brk y (rkS (cut e).1)).length ≤ y.1.length + 2 := by unfold brk; split <;> simp
   have hc : (brk z (rkS (cut e).1 + 1)).length ≤ z.1.length + 2 := by unfold brk; split <;> simp
   simp
   omega
end Db
namespace Go.Proofs.YtdchbenfccofpaaGreatDoor
open Go.RowKit Db
theorem top_any (n : Nat) : ∀ (s : ByteArray) (w : World), s.size < n → s.size ≤ 200 →
  Calls Tryz.prog 168 #[.string s] w fun e w' => ∃ o, e = .returned (.int .u8 o) ∧ Tp (L s) o ∧ ∃ m, w' = w.drewN m := by
 induction n with
 | zero => intro s w h; omega
 | succ n ih =>
  intro s w hn hs
  have Hih := hI ih
  clear ih
  go_enter Tryz.func168, Tryz.ntmps168
  go_wp2_with fail
  refine (cut_any s _ hs).mono ?_
  rintro e w1 ⟨o, l, r, rfl, ⟨hco, hcl, hcr⟩, m, rfl⟩
  by_cases h40 : o = 40
  ·subst h40
   have hrs := cut_par_lt (L s) hco
   rw [← hcr, L_length, L_length] at hrs
   have Ht : Hid (∀ o, Tp (L r) o → Tp (L s) o) := fun o h => .into hco (by rw [← hcr]; exact h)
   clear hco hcl hcr
   go_wp2_with fail
   refine (Hih.u r _ (by omega) (by omega)).mono ?_
   rintro e w2 ⟨o, rfl, ho, m2, rfl⟩
   have Ho := hI (Ht.u o ho)
   clear ho
   go_wp2_with fail
   go_ret
   exact ⟨o, rfl, Ho.u, m + m2, by simp [World.drewN]⟩
  ·have n40 : (o == 40) = false := by simpa using h40
   have Ht : Hid (Tp (L s) o) := by show Tp _ _; rw [← hco] at h40 ⊢; exact .stop h40
   clear hco hcl hcr h40
   go_wp2_with fail
   go_ret
   exact ⟨o, rfl, Ht.u, m, rfl⟩
theorem retS {a b : ByteArray} (h : a = b) : Ending.returned (.string a) = .returned (.string b) := by rw [h]
theorem L_of (l : List UInt8) : L ⟨l.toArray⟩ = l := L_list l
theorem L_eq {u : ByteArray} {l : List UInt8} (h : L u = l) : u = ⟨l.toArray⟩ := L_inj (by rw [h, L_list])
theorem trm_le (l : List UInt8) : (trm l).length ≤ l.length := by
 induction l with
 | nil => simp [trm]
 | cons c t ih =>
  cases t with
  | nil => simp [trm]
  | cons d r =>
   unfold trm
   split
   ·exact Nat.le_trans ih (by simp)
   ·exact Nat.le_refl _
theorem trm_go (u : ByteArray) (h : 1 < u.size) (h0 : (u[0].toNat : Int) = 48) : trm (L (u.extract 1 u.size)) = trm (L u) := by
 have e : L u = u[0] :: (L u).drop 1 := by have := L_drop u 0 (by omega); simpa using this
 rw [L_extract]
 have h1 : ((L u).drop 1).take (u.size - 1) = (L u).drop 1 := List.take_of_length_le (by rw [List.length_drop, L_length]; omega)
 rw [h1]
 conv => rhs; rw [e]
 have e2 := L_drop u 1 h
 rw [e2]
 have h48 : u[0].toNat = 48 := by omega
 rw [trm, if_pos h48]
theorem trm_stop (u : ByteArray) (h : u.size ≤ 1) : trm (L u) = L u := by
 have hl := L_length u
 match hu : L u with
 | [] => rfl
 | [c] => rfl
 | c :: d :: r => rw [hu] at hl; simp at hl; omega
theorem trm_not (u : ByteArray) (h : 1 < u.size) (h0 : ¬ (u[0].toNat : Int) = 48) : trm (L u) = L u := by
 have e : L u = u[0] :: (L u).drop 1 := by have := L_drop u 0 (by omega); simpa using this
 have e2 := L_drop u 1 h
 rw [e2] at e
 rw [e, trm, if_neg (by omega)]
theorem trimmed_any (s : ByteArray) (w : World) :
  Calls Tryz.prog 196 #[.string s] w fun e w' => e = .returned (.string ⟨(trm (L s)).toArray⟩) ∧ w' = w := by
 go_enter Tryz.func196, Tryz.ntmps196
 go_wp2_with fail
 go_loopg [0] s.size (fun m v wr => ∃ u : ByteArray, m = u.size ∧ v = .string u ∧ u.size ≤ s.size ∧ Hid (trm (L u) = trm (L s)) ∧ wr = w)
 case atStart => exact ⟨s, rfl, rfl, Nat.le_refl _, rfl, rfl⟩
 case round =>
  obtain ⟨u, rfl, rfl, hus, Hu, rfl⟩ := hrel
  by_cases h1 : 1 < u.size
  ·by_cases h0 : (u[0].toNat : Int) = 48
   ·have Hg := hI ((trm_go u h1 h0).trans Hu.u)
    have b0 : ((u[0].toNat : Int) == 48) = true := by simpa using h0
    have hz : (u.extract 1 u.size).size = u.size - 1 := by simp
    clear h0
    go_wp2_with fail
    go_roundg (u.size - 1)
    case measure => omega
    case rel => exact ⟨u.extract 1 u.size, hz.symm, rfl, by omega, Hg.u, rfl⟩
   ·have Hg := hI ((trm_not u h1 h0).symm.trans Hu.u)
    have b0 : ((u[0].toNat : Int) == 48) = false := by simpa using h0
    clear h0
    go_wp2_with fail
    go_ret
    exact ⟨retS (L_eq Hg.u), rfl⟩
  ·have Hg := hI ((trm_stop u (by omega)).symm.trans Hu.u)
   have i1 : ¬ (1 : Int) < (u.size : Int) := by omega
   have i2 : decide ((1 : Int) < (u.size : Int)) = false := decide_eq_false i1
   go_wp2_with fail
   go_ret
   exact ⟨retS (L_eq Hg.u), rfl⟩
theorem refOperand_any (s : ByteArray) (p : Pt) (w : World) (hs : s.size ≤ 200) (ho : Opnd (L s) [p]) :
  Calls Tryz.prog 169 #[.string s] w fun e w' => ∃ u : ByteArray, e = .returned (.string u) ∧ L u = wordP p ∧ ∃ m, w' = w.drewN m := by
 obtain ⟨h1, h2⟩ := opnd_word ho
 rw [L_length] at h2
 have hh : hd (L s) = (s[0].toNat : Int) := by have := L_drop s 0 (by omega); simp at this; rw [this]; rfl
 rw [hh] at h1
 have H1 := hI h1
 clear h1 hh ho
 go_enter Tryz.func169, Tryz.ntmps169
 go_wp2_with fail
 refine (dgt (s[0].toNat : Int) _).mono ?_
 rintro e w1 ⟨rfl, rfl⟩
 cases hd : digB (s[0].toNat : Int) with
 | true =>
  have H2 : Hid (wordP p = trm (L s)) := by have := H1.u; rw [hd] at this; exact this
  clear H1 hd
  go_wp2_with fail
  refine (trimmed_any s _).mono ?_
  rintro e w1 ⟨rfl, rfl⟩
  go_wp2_with fail
  go_ret
  exact ⟨_, rfl, by rw [L_of, H2.u], 0, rfl⟩
 | false =>
  have H2 : Hid (wordP p = (L s).take 1 ++ trm ((L s).drop 1)) := by have := H1.u; rw [hd] at this; exact this
  have ht : L (s.extract 1 s.size) = (L s).drop 1 := by rw [L_extract]; exact List.take_of_length_le (by rw [List.length_drop, L_length]; omega)
  have hsz : (s.extract 1 s.size).size ≤ 200 := by simp; omega
  obtain ⟨t, hteq⟩ : ∃ t : ByteArray, t = ⟨(trm (L (s.extract 1 s.size))).toArray⟩ := ⟨_, rfl⟩
  have hcall : ∀ wx, Calls Tryz.prog 196 #[.string (s.extract 1 s.size)] wx fun e w' => e = .returned (.string t) ∧ w' = wx := by
   intro wx; rw [hteq]; exact trimmed_any _ wx
  have hz2 : t.size ≤ 200 := by
   rw [hteq, size_L, L_of]
   refine Nat.le_trans (trm_le _) ?_
   rw [L_length]; exact hsz
  have htL : L t = trm ((L s).drop 1) := by rw [hteq, L_of, ht]
  have Ht := hI htL
  have i1 : (1 : Int) ≤ (s.size : Int) := by omega
  clear H1 hd ht htL hteq
  go_wp2_with fail
  go_quiet ((go_at_call 196; exact Calls.quiet_of_same (hcall _)))
  go_wp2_with fail
  go_ret
  refine ⟨_, rfl, ?_, _, rfl⟩
  rw [L_append, H2.u, Ht.u, L_extract]
  rfl
def ShowC (n : Nat) : Prop := ∀ (s : ByteArray) (ps : List Pt) (w : World), s.size ≤ 200 → Wf n (L s) ps → ps.length ≤ 200 →
  Calls Tryz.prog 126 #[.string s] w fun e w' => ∃ u : ByteArray, ∃ x : Pc, e = .returned (.string u) ∧ ShowR ps x ∧ L u = x.1 ∧ Below w.heap.size w w'
theorem show_size {n : Nat} {e : List UInt8} {ps : List Pt} {x : Pc} {u : ByteArray} (h : Wf n e ps) (hl : ps.length ≤ 200) (hx : ShowR ps x) (hu : L u = x.1) : u.size ≤ 5000 := by
 rw [size_L, hu]
 have := wf_size h hx
 omega
def wrp (b : Bool) (l : List UInt8) : List UInt8 := if b then 40 :: (l ++ [41]) else l
theorem wrp_brk {x : Pc} {b : Bool} {k : Nat} (h : b = decide (x.2 < k)) : wrp b x.1 = brk x k := by
 subst h; unfold wrp brk
 by_cases h : x.2 < k <;> simp [h]
theorem wrapped_any (n : Nat) (ih : ShowC n) (s : ByteArray) (b : Bool) (ps : List Pt) (w : World) (hs : s.size ≤ 200) (hw : Wf n (L s) ps) (hl : ps.length ≤ 200) :
  Calls Tryz.prog 170 #[.string s, .bool b] w fun e w' => ∃ u : ByteArray, ∃ x : Pc, e = .returned (.string u) ∧ ShowR ps x ∧ L u = wrp b x.1 ∧ u.size ≤ 5002 ∧ Below w.heap.size w w' := by
 have Hih := hI ih
 have Hw := hI hw
 clear ih hw
 go_enter Tryz.func170, Tryz.ntmps170
 go_wp2_with fail
 refine (Hih.u s ps _ hs Hw.u hl).mono ?_
 rintro e w1 ⟨u, x, rfl, hx, hu, hb⟩
 have hus := show_size Hw.u hl hx hu
 have Hx := hI hx
 have Hu := hI hu
 have Hb := hI hb
 clear hx hu hb
 cases b with
 | true =>
  go_wp2_with fail
  go_ret
  refine ⟨_, x, rfl, Hx.u, ?_, ?_, Hb.u⟩
  ·rw [L_append, L_append, Hu.u]; rfl
  ·rw [size_L, L_append, L_append, List.length_append, List.length_append, L_length u]
   show 1 + u.size + 1 ≤ _
   omega
 | false =>
  go_wp2_with fail
  go_ret
  exact ⟨u, x, rfl, Hx.u, Hu.u, by omega, Hb.u⟩
def sB (b : Int) : Bool := b == 43 || b == 45
def tB (b : Int) : Bool := b == 42 || b == 47
theorem sgn_cases (b : Int) : b = 43 ∨ b = 45 ∨ b = 42 ∨ b = 47 ∨ ((b == 43) = false ∧ (b == 45) = false ∧ (b == 42) = false ∧ (b == 47) = false) := by
 by_cases h1 : b = 43
 ·exact .inl h1
 by_cases h2 : b = 45
 ·exact .inr (.inl h2)
 by_cases h3 : b = 42
 ·exact .inr (.inr (.inl h3))
 by_cases h4 : b = 47
 ·exact .inr (.inr (.inr (.inl h4)))
 exact .inr (.inr (.inr (.inr ⟨by simpa using h1, by simpa using h2, by simpa using h3, by simpa using h4⟩)))
theorem rk3 (b : Int) : (sB b || tB b) = decide (rkO b < 3) := by
 rcases sgn_cases b with rfl | rfl | rfl | rfl | ⟨h1, h2, h3, h4⟩
 ·rfl
 ·rfl
 ·rfl
 ·rfl
 ·simp [sB, tB, rkO, h1, h2, h3, h4]
theorem rk2 (b : Int) : sB b = decide (rkO b < 2) := by
 rcases sgn_cases b with rfl | rfl | rfl | rfl | ⟨h1, h2, h3, h4⟩
 ·rfl
 ·rfl
 ·rfl
 ·rfl
 ·simp [sB, rkO, h1, h2, h3, h4]
theorem tp_zero {l : List UInt8} {o : Int} (hc : (cut l).1 = 0) (h : Tp l o) : o = 0 := by
 cases h with
 | stop _ => exact hc
 | into h _ => rw [hc] at h; cases h
theorem cut_nil : (cut []).1 = 0 := by decide
theorem show_leaf (s : ByteArray) (ps : List Pt) (w : World) (hs : s.size ≤ 200) (hcut : cut (L s) = (0, [], L s)) (hop : Opnd (L s) ps) :
  Calls Tryz.prog 126 #[.string s] w fun e w' => ∃ u : ByteArray, ∃ x : Pc, e = .returned (.string u) ∧ ShowR ps x ∧ L u = x.1 ∧ Below w.heap.size w w' := by
 obtain ⟨p, rfl, hp⟩ := opnd_opd hop
 have Hcut := hI hcut
 have Hop := hI hop
 have Hsh := hI (showR_leaf hp)
 clear hcut hop hp
 go_enter Tryz.func126, Tryz.ntmps126
 go_wp2_with fail
 refine (cut_any s _ hs).mono ?_
 rintro e w1 ⟨o, l, r, rfl, ⟨hco, hcl, hcr⟩, m, rfl⟩
 rw [Hcut.u] at hco hcl hcr
 obtain rfl : r = s := L_inj hcr
 subst hco
 have hls : l.size ≤ 200 := by rw [size_L, hcl]; simp
 have Hl : Hid (∀ o, Tp (L l) o → o = 0) := by
  show ∀ o, _
  rw [hcl]
  exact fun o h => tp_zero cut_nil h
 have Hr : Hid (∀ o, Tp (L r) o → o = 0) := fun o h => tp_zero (by rw [Hcut.u]) h
 clear hcl hcr Hcut
 go_wp2_with fail
 refine (top_any 201 l _ (by omega) hls).mono ?_
 rintro e w2 ⟨a, rfl, ha, m2, rfl⟩
 obtain rfl := Hl.u a ha
 clear ha Hl
 go_wp2_with fail
 refine (top_any 201 r _ (by omega) hs).mono ?_
 rintro e w3 ⟨b, rfl, hb, m3, rfl⟩
 obtain rfl := Hr.u b hb
 clear hb Hr
 go_wp2_with fail
 refine (refOperand_any r p _ hs Hop.u).mono ?_
 rintro e w4 ⟨u, rfl, hu, m4, rfl⟩
 have Hu := hI hu
 clear hu
 go_wp2_with fail
 go_ret
 exact ⟨u, _, rfl, Hsh.u, Hu.u, (Below.refl _ _).drewN _⟩
theorem show_par (n : Nat) (ih : ShowC n) (s : ByteArray) (ps : List Pt) (w : World) (hs : s.size ≤ 200) (ho : (cut (L s)).1 = 40) (hw : Wf n (cut (L s)).2.2 ps) (hl : ps.length ≤ 200) :
  Calls Tryz.prog 126 #[.string s] w fun e w' => ∃ u : ByteArray, ∃ x : Pc, e = .returned (.string u) ∧ ShowR ps x ∧ L u = x.1 ∧ Below w.heap.size w w' := by
 have Hih := hI ih
 have Hw := hI hw
 have Ho := hI ho
 clear ih hw ho
 go_enter Tryz.func126, Tryz.ntmps126
 go_wp2_with fail
 refine (cut_any s _ hs).mono ?_
 rintro e w1 ⟨o, l, r, rfl, ⟨hco, hcl, hcr⟩, m, rfl⟩
 obtain rfl : (40 : Int) = o := Ho.u.symm.trans hco
 have Hr : Hid (Wf n (L r) ps) := by show Wf _ _ _; rw [hcr]; exact Hw.u
 have hls : l.size ≤ 200 := Nat.le_trans (size_of_L hcl (cut_le (L s)).1) hs
 have hrs : r.size ≤ 200 := Nat.le_trans (size_of_L hcr (cut_le (L s)).2) hs
 clear hco hcl hcr Hw Ho
 go_wp2_with fail
 refine (top_any 201 l _ (by omega) hls).mono ?_
 rintro e w2 ⟨a, rfl, ha, m2, rfl⟩
 clear ha
 go_wp2_with fail
 refine (top_any 201 r _ (by omega) hrs).mono ?_
 rintro e w3 ⟨b, rfl, hb, m3, rfl⟩
 clear hb
 rcases sgn_cases b with rfl | rfl | rfl | rfl | ⟨h1, h2, h3, h4⟩
 all_goals
  go_wp2_with fail
  refine (Hih.u r ps _ hrs Hr.u hl).mono ?_
  rintro e w4 ⟨u, x, rfl, hx, hu, hb4⟩
  have Hx := hI hx
  have Hu := hI hu
  have Hb := hI hb4.undrewN
  clear hx hu hb4
  go_wp2_with fail
  go_ret
  exact ⟨u, x, rfl, Hx.u, Hu.u, Hb.u⟩
theorem show_neg (n : Nat) (ih : ShowC n) (s : ByteArray) (ps : List Pt) (w : World) (hs : s.size ≤ 200) (ho : (cut (L s)).1 = 126) (hw : Wf n (cut (L s)).2.2 ps) (hl : ps.length ≤ 200) :
  Calls Tryz.prog 126 #[.string s] w fun e w' => ∃ u : ByteArray, ∃ x : Pc, e = .returned (.string u) ∧ ShowR (ps ++ [(126, 0)]) x ∧ L u = x.1 ∧ Below w.heap.size w w' := by
 have Hih := hI ih
 have Hw := hI hw
 have Ho := hI ho
 clear ih hw ho
 go_enter Tryz.func126, Tryz.ntmps126
 go_wp2_with fail
 refine (cut_any s _ hs).mono ?_
 rintro e w1 ⟨o, l, r, rfl, ⟨hco, hcl, hcr⟩, m, rfl⟩
 obtain rfl : (126 : Int) = o := Ho.u.symm.trans hco
 have Hr : Hid (Wf n (L r) ps) := by show Wf _ _ _; rw [hcr]; exact Hw.u
 have hls : l.size ≤ 200 := Nat.le_trans (size_of_L hcl (cut_le (L s)).1) hs
 have hrs : r.size ≤ 200 := Nat.le_trans (size_of_L hcr (cut_le (L s)).2) hs
 clear hco hcl hcr Hw Ho
 go_wp2_with fail
 refine (top_any 201 l _ (by omega) hls).mono ?_
 rintro e w2 ⟨a, rfl, ha, m2, rfl⟩
 clear ha
 go_wp2_with fail
 refine (top_any 201 r _ (by omega) hrs).mono ?_
 rintro e w3 ⟨b, rfl, hb, m3, rfl⟩
 have HT : Hid (∀ x, ShowR ps x → ∀ k : Bool, k = (sB b || tB b) → ShowR (ps ++ [(126, 0)]) (45 :: wrp k x.1, 3)) := by
  intro x hx k hk
  obtain ⟨y, hy, hr⟩ := wf_tp Hr.u hb
  obtain rfl := hx.uniq hy
  rw [wrp_brk (x := x) (k := 3) (by rw [hk, rk3, hr])]
  exact showR_neg hx
 clear hb
 rcases sgn_cases b with rfl | rfl | rfl | rfl | ⟨h1, h2, h3, h4⟩
 all_goals
  go_wp2_with fail
  refine (wrapped_any n Hih.u r _ ps _ hrs Hr.u hl).mono ?_
  rintro e w4 ⟨u, x, rfl, hx, hu, hus, hb4⟩
  first
   | have Hx := hI (HT.u x hx true rfl)
   | have Hx := hI (HT.u x hx false (by simp [sB, tB, h1, h2, h3, h4]))
  have Hu := hI hu
  have Hb := hI hb4.undrewN
  clear hx hu hb4
  go_wp2_with fail
  go_ret
  exact ⟨_, _, rfl, Hx.u, by rw [L_append, Hu.u]; rfl, Hb.u⟩
theorem wf_rank {n : Nat} : ∀ {e : List UInt8} {ps : List Pt} {x : Pc}, Wf n e ps → ShowR ps x → 1 ≤ x.2 := by
 induction n with
 | zero => intro e ps x h; exact absurd h (by simp [Wf])
 | succ n ih =>
  intro e ps x h hx
  rcases h with ⟨h1, h⟩ | ⟨h1, h2⟩ | ⟨h1, p, h2, rfl⟩ | ⟨h1, p, r, h2, h3, rfl⟩
  ·obtain ⟨p, rfl, hp⟩ := opnd_opd h
   rw [hx.uniq (showR_leaf hp)]; show 1 ≤ 3; omega
  ·exact ih h2 hx
  ·obtain ⟨y, hy⟩ := wf_show h2
   rw [hx.uniq (showR_neg hy)]; show 1 ≤ 3; omega
  ·obtain ⟨y, hy⟩ := wf_show h2
   obtain ⟨z, hz⟩ := wf_show h3
   rw [hx.uniq (showR_bin h1 hy hz)]
   show 1 ≤ rkS _
   unfold rkS; split <;> omega
theorem bel_a {w w4 w5 : World} {o : Obj} (h : Below w.heap.size w w4) (k : Below (w4.drew.alloc o).heap.size (w4.drew.alloc o) w5) : Below w.heap.size w w5 := by
 have h0 : Below w4.heap.size w4.drew w5 := ((Below.refl _ w4.drew).alloc (Nat.le_refl _) _).then' (by simp) k
 exact h.then h0.undrew
theorem bel_b {w w4 w5 : World} {o : Obj} (h : Below w.heap.size w w4) (k : Below w4.drew.heap.size w4.drew w5) : Below w.heap.size w (w5.alloc o) := by
 have h0 : Below w4.heap.size w4 w5 := Below.undrew k
 exact (h.then h0).alloc (h.then h0).size _
theorem brk_one {x : Pc} (h : 1 ≤ x.2) : brk x 1 = x.1 := by unfold brk; rw [if_neg (by omega)]
theorem show_sum (n : Nat) (ih : ShowC n) (s : ByteArray) (c : UInt8) (p q : List Pt) (w : World) (hs : s.size ≤ 200) (hc : c = 43 ∨ c = 45) (ho : (cut (L s)).1 = (c.toNat : Int)) (hp : Wf n (cut (L s)).2.1 p) (hq : Wf n (cut (L s)).2.2 q) (hlp : p.length ≤ 200) (hlq : q.length ≤ 200) :
  Calls Tryz.prog 126 #[.string s] w fun e w' => ∃ u : ByteArray, ∃ x : Pc, e = .returned (.string u) ∧ ShowR (p ++ q ++ [((c.toNat : Int), 0)]) x ∧ L u = x.1 ∧ Below w.heap.size w w' := by
 have Hih := hI ih
 have Hp := hI hp
 have Hq := hI hq
 have Ho := hI ho
 clear ih hp hq ho
 go_enter Tryz.func126, Tryz.ntmps126
 go_wp2_with fail
 refine (cut_any s _ hs).mono ?_
 rintro e w1 ⟨o, l, r, rfl, ⟨hco, hcl, hcr⟩, m, rfl⟩
 obtain rfl : (c.toNat : Int) = o := Ho.u.symm.trans hco
 have Hl : Hid (Wf n (L l) p) := by show Wf _ _ _; rw [hcl]; exact Hp.u
 have Hr : Hid (Wf n (L r) q) := by show Wf _ _ _; rw [hcr]; exact Hq.u
 have hls : l.size ≤ 200 := Nat.le_trans (size_of_L hcl (cut_le (L s)).1) hs
 have hrs : r.size ≤ 200 := Nat.le_trans (size_of_L hcr (cut_le (L s)).2) hs
 clear hco hcl hcr Hp Hq Ho
 go_wp2_with fail
 refine (top_any 201 l _ (by omega) hls).mono ?_
 rintro e w2 ⟨a, rfl, ha, m2, rfl⟩
 clear ha
 go_wp2_with fail
 refine (top_any 201 r _ (by omega) hrs).mono ?_
 rintro e w3 ⟨b, rfl, hb, m3, rfl⟩
 have HT : Hid (∀ x y, ShowR p x → ShowR q y → ShowR (p ++ q ++ [((c.toNat : Int), 0)]) (x.1 ++ c :: wrp (sB b) y.1, 1)) := by
  intro x y hx hy
  obtain ⟨z, hz, hr⟩ := wf_tp Hr.u hb
  obtain rfl := hy.uniq hz
  rw [wrp_brk (x := y) (k := 2) (by rw [rk2, hr])]
  rw [← brk_one (wf_rank Hl.u hx)]
  rcases hc with rfl | rfl
  ·exact showR_bin (o := 43) rfl hx hy
  ·exact showR_bin (o := 45) rfl hx hy
 clear hb
 go_upto_region 4 with fail
 go_cut [8] from 22 (fun sm wx => sm = .bool (sB b) ∧ wx = w.drewN (m + m2 + m3))
 case first =>
  rcases sgn_cases b with rfl | rfl | rfl | rfl | ⟨h1, h2, h3, h4⟩
  all_goals
   go_wp2_with fail
   go_meet
   exact ⟨by simp [sB, *], rfl⟩
 case rest =>
  obtain ⟨rfl, rfl⟩ := hcut
  go_upto_region 5 with fail
  go_cut [9] from 22 (fun tm wx => tm = .bool (tB b) ∧ wx = w.drewN (m + m2 + m3))
  case first =>
   rcases sgn_cases b with rfl | rfl | rfl | rfl | ⟨h1, h2, h3, h4⟩
   all_goals
    go_wp2_with fail
    go_meet
    exact ⟨by simp [tB, *], rfl⟩
  case rest =>
   obtain ⟨rfl, rfl⟩ := hcut
   obtain ⟨k, hk⟩ : ∃ k, sB b = k := ⟨_, rfl⟩
   rw [hk] at HT ⊢
   have Hih2 := hI (fun (k : Bool) (wx : World) => wrapped_any n Hih.u r k q wx hrs Hr.u hlq)
   have hcv := conv_one c
   clear hk
   rcases hc with rfl | rfl
   all_goals
    go_wp2_with fail
    refine (Hih.u l p _ hls Hl.u hlp).mono ?_
    rintro e w4 ⟨u, x, rfl, hx, hu, hb4⟩
    have hus := show_size Hl.u hlp hx hu
    have Hx := hI hx
    have Hu := hI hu
    have Hb := hI hb4.undrewN
    clear hx hu hb4
    go_upto_region 16 with fail
    go_region_with (go_at_call 170; refine (Hih2.u k _).mono ?_; rintro e w5 ⟨u2, y, rfl, hy, hu2, hus2, hb5⟩; have k0 := fun h => hb5.cell (p := ⟨w4.heap.size, 0, none⟩) h; simp at k0)
    all_goals (go_wp2_with fail)
    all_goals go_ret
    all_goals refine ⟨_, _, rfl, HT.u x y Hx.u hy, ?_, ?_⟩
    all_goals first
     | (rw [L_append, L_append, Hu.u, hu2]; simp [L])
     | exact bel_a Hb.u hb5
     | exact bel_b Hb.u hb5
end Go.Proofs.YtdchbenfccofpaaGreatDoor
