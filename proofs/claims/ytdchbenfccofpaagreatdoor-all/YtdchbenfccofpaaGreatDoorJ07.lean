/- Own texts of the theorem in YtdchbenfccofpaaGreatDoorWAlY, part 07. -/
import Derived.Test.YtdchbenfccofpaaGreatDoorJ05
import Derived.Test.YtdchbenfccofpaaGreatDoorJ06
import Derived.Test.YtdchbenfccofpaaGreatDoorJ03
import Derived.Test.YtdchbenfccofpaaGreatDoorJ01
import Derived.Deep.LoopGhost
import Derived.Deep.Draws
set_option maxRecDepth 100000
set_option maxHeartbeats 8000000
namespace Go.RowKit
theorem FrX.undrew {X : Nat → Prop} {B : Nat} {Ts : List TypeId} {a b : World} (h : FrX X B Ts a.drew b) : FrX X B Ts a b := ⟨h.fr.undrew, h.keep⟩
end Go.RowKit
namespace Go.Proofs.YtdchbenfccofpaaGreatDoor
open Go.RowKit Db
def LedM (X : Nat → Prop) (w0 : World) (tv : List (Tn × Value)) (w : World) (B p : Nat) (d : Dk) (s : Bk) : Prop := ∃ va' vt' tv', LedAx X w B p va' vt' tv' d s ∧ ∀ x ∈ tv', x ∈ tv ∨ ∀ k, x.2.ownBlock = some k → w0.heap.size ≤ k
theorem LedM.same {X : Nat → Prop} {w0 w : World} {B p : Nat} {va vt : Value} {tv : List (Tn × Value)} {d : Dk} {s : Bk} (h : LedAx X w B p va vt tv d s) : LedM X w0 tv w B p d s := ⟨va, vt, tv, h, fun _ hx => .inl hx⟩
theorem ledPostM_any (X : Nat → Prop) (B p : Nat) (s : Bk) (id day : Int) (v : Value) (ls : List Ln) (w : World) (va vt : Value) (tv : List (Tn × Value)) (d : Dk) (h : LedAx X w B p va vt tv d s) (hl : LinesAt w v ls) :
   Calls Tryz.prog 105 #[.pointer (some ⟨p, 0, none⟩), .int .i64 id, .int .i64 day, v] w fun e w' => e = .returned (.tuple #[.bool (isN s id day ls), .int .i64 (pst s id day ls).1]) ∧ LedM X w tv w' B p d (pst s id day ls).2 ∧ FrX X B tP w w' := by
 obtain ⟨ao, cap, rfl⟩ := hl.form
 obtain ⟨ii, hi, hz0, hz1, hz2⟩ := info_parts info_line
 obtain ⟨jj, hj, hy0, hy1, hy2⟩ := info_parts info_tx
 have H := hI h
 have Hl := hI hl
 by_cases hid : id < 0 ∨ 9999 < id
 · rw [isN_no (by rw [pst_id hid]), pst_id hid]
   clear h hl
   by_cases hneg : id < 0
   · go_enter Tryz.func105, Tryz.ntmps105
     go_wp2_with fail
     go_ret2
     exact ⟨rfl, .same H.u, FrX.refl _ _ _⟩
   · have hgt : 9999 < id := by omega
     go_enter Tryz.func105, Tryz.ntmps105
     go_wp2_with fail
     go_ret2
     exact ⟨rfl, .same H.u, FrX.refl _ _ _⟩
 · have h0 : ¬ id < 0 := by omega
   have h9 : ¬ 9999 < id := by omega
   have Hf := hI (find_any B p s id va vt tv d w h.toLedAt)
   clear h hl
   cases hfd : findT id s.txs with
   | some t =>
     rw [isN_no (by rw [pst_old hid hfd]), pst_old hid hfd]
     rw [hfd] at Hf
     obtain ⟨x, hx⟩ : ∃ x, repE t.2.1 day t.2.2 ls = x := ⟨_, rfl⟩
     rw [hx]
     have Hx := hI hx
     clear hx hfd
     go_enter Tryz.func105, Tryz.ntmps105
     go_wp2_with fail
     refine Hf.u.mono ?_
     rintro e w1 ⟨⟨t1, v1, ht1, hm1, rfl⟩ | ⟨ht1, _⟩, hb1⟩
     · simp only [Option.some.injEq] at ht1
       subst ht1
       have hln := (H.u.keptX hb1).txs.lns _ hm1
       have h4 : t.2.2.length ≤ 4 := by
         have : t ∈ s.txs := by rw [← H.u.jr]; exact List.mem_map_of_mem hm1
         exact (H.u.good.tx t this).2.2.2.2.1
       obtain ⟨ti, td, tl⟩ := t
       simp only at hln h4 Hx
       obtain ⟨aol, capl, rfl⟩ := oForm hln
       have Hln := hI hln
       have Hb1 := hI hb1
       have hsz1 := hb1.size
       clear hm1 hb1 hln
       go_wp2_with fail
       refine (repeated_any ti td day tl ls _ _ _ (by exact (LinesAt.of_own Hln.u).kept ((Below.refl _ _).alloc (Nat.le_refl _) _)) (by exact Hl.u.kept (Hb1.u.alloc hsz1 _)) h4).mono ?_
       rw [Hx.u]
       rintro e w2 ⟨rfl, hb2⟩
       have Hb2 : Hid (Below w.heap.size w w2) := (Hb1.u.alloc hsz1 _).then' (by simp; omega) hb2
       clear hb2
       go_wp2_with fail
       go_ret2
       exact ⟨rfl, .same (H.u.keptX Hb2.u), FrX.of_below Hb2.u⟩
     · cases ht1
   | none =>
     rw [hfd] at Hf
     by_cases hd : day < 0 ∨ 999 < day
     · rw [isN_no (by rw [pst_day hid hfd hd]), pst_day hid hfd hd]
       clear hfd
       by_cases hneg : day < 0
       all_goals
         go_enter Tryz.func105, Tryz.ntmps105
         go_wp2_with fail
         refine Hf.u.mono ?_
         rintro e w1 ⟨⟨t1, v1, ht1, _, _⟩ | ⟨_, rfl⟩, hb1⟩
         · cases ht1
         have Hb1 := hI hb1
         have hsz1 := hb1.size
         clear hb1
         have hor : ¬ day < 0 → 999 < day := fun h => by omega
         go_wp2_with fail
         go_ret2
         exact ⟨rfl, .same (H.u.keptX (Hb1.u.alloc hsz1 _)), FrX.of_below (Hb1.u.alloc hsz1 _)⟩
     · have hd0 : ¬ day < 0 := by omega
       have hd9 : ¬ 999 < day := by omega
       have Hc := hI (fun (wx : World) (hb : Below w.heap.size w wx) => checkLines_any B p s _ ls wx ⟨_, _, _, _, H.u.toLedAt.kept hb⟩ (Hl.u.kept hb))
       by_cases hlz : lnsE s ls = 0
       · have Hcc : Hid (∀ (wx : World), Below w.heap.size w wx → Calls Tryz.prog 144 #[.pointer (some ⟨p, 0, none⟩), .slice ao ls.length cap] wx fun e w' => e = .returned (.int .i64 0) ∧ Below wx.heap.size wx w') := by
           intro wx hb; have := Hc.u wx hb; rw [hlz] at this; exact this
         obtain ⟨aot, capt, rfl⟩ := oForm H.u.txs.own
         have hjl : tv.length = s.txs.length := by rw [← H.u.jr, List.length_map]
         have hgp := H.u.good.posts
         by_cases h64 : 64 ≤ s.txs.length
         · rw [isN_no (by rw [pst_full hid hfd hd hlz h64]), pst_full hid hfd hd hlz h64]
           have h64' : 64 ≤ tv.length := by omega
           clear hfd hlz Hc hjl hgp h64
           go_enter Tryz.func105, Tryz.ntmps105
           go_wp2_with fail
           refine Hf.u.mono ?_
           rintro e w1 ⟨⟨t1, v1, ht1, _, _⟩ | ⟨_, rfl⟩, hb1⟩
           · cases ht1
           have Hb1 := hI hb1
           have hsz1 := hb1.size
           clear hb1
           go_wp2_with fail
           refine (Hcc.u _ (by exact Hb1.u.alloc hsz1 _)).mono ?_
           rintro e w2 ⟨rfl, hb2⟩
           have Hb2 : Hid (Below w.heap.size w w2) := (Hb1.u.alloc hsz1 _).then' (by simp; omega) hb2
           have H2 := hI (H.u.keptX Hb2.u)
           have c1 := H2.u.blk.cell 1
           simp only [List.getElem?_toArray, List.getElem?_cons_zero, List.getElem?_cons_succ] at c1
           clear hb2
           go_wp2_with fail
           go_ret2
           exact ⟨rfl, .same H2.u, FrX.of_below Hb2.u⟩
         · have hok := pst_ok hid hfd hd hlz h64
           have Hgood : Hid (BkGood { s with txs := s.txs ++ [(id, day, ls)] }) := by
             have := BkGood.pst H.u.good id day ls
             rw [hok] at this
             exact this
           rw [isN_yes (by rw [hok]), hok]
           have h64' : tv.length < 64 := by omega
           have hl4 : ls.length ≤ 4 := (lnsE_ok H.u.good hlz).1
           have hl2 : 2 ≤ ls.length := by
             by_cases hx : ls.length < 2
             · rw [lnsE_15 (.inl hx)] at hlz; simp at hlz
             · omega
           obtain ⟨ao1, cap1, e1, hr⟩ := Hl.u
           simp only [Value.slice.injEq, true_and] at e1
           obtain ⟨rfl, rfl⟩ := e1
           obtain ⟨b, off, rfl, hbl, hcs⟩ : ∃ b off, ao = some ⟨b, off, none⟩ ∧ b < w.heap.size ∧ ∀ (i : Nat) (l : Ln), ls[i]? = some l → w.cell? ⟨b, off + i * 2, none⟩ = some (.int .i64 l.1) ∧ w.cell? ⟨b, off + i * 2 + 1, none⟩ = some (.int .i64 l.2) := by
             rcases hr with rfl | hr
             · simp at hl2
             · exact hr
           have Hcs := hI (lines_cells hcs)
           have hBp := H.u.lo
           have hpl := H.u.blk.lt
           clear hfd hlz Hc hjl hgp h64 hok hr hcs
           go_enter Tryz.func105, Tryz.ntmps105
           go_wp2_with fail
           refine Hf.u.mono ?_
           rintro e w1 ⟨⟨t1, v1, ht1, _, _⟩ | ⟨_, rfl⟩, hb1⟩
           · cases ht1
           have Hb1 := hI hb1
           have hsz1 := hb1.size
           clear hb1
           go_wp2_with fail
           refine (Hcc.u _ (by exact Hb1.u.alloc hsz1 _)).mono ?_
           rintro e w2 ⟨rfl, hb2⟩
           have Hb2 : Hid (Below w.heap.size w w2) := (Hb1.u.alloc hsz1 _).then' (by simp; omega) hb2
           have H2 := hI (H.u.keptX Hb2.u)
           have c1 := H2.u.blk.cell 1
           have z1 := H2.u.blk.frozen 1
           have hsz2 := Hb2.u.size
           simp only [List.getElem?_toArray, List.getElem?_cons_zero, List.getElem?_cons_succ] at c1
           have Hcs2 : Hid (∀ j u, (cellsL ls)[j]? = some u → w2.cell? ((⟨b, off, none⟩ : Addr).add j) = some u) := by
             intro j u hju
             rw [← Hcs.u j u hju, Addr.add_lit]
             exact Hb2.u.cell (p := ⟨b, off + j, none⟩) hbl
           clear hb2
           go_wp2_with (first
             | (at_builtin; refine wpList_append_own _ rfl (.tmp 49) (.tmp 50) 31 rfl w2.heap.size 89 ii (.agg #[.int .i64 0, .int .i64 0]) 2 16 Tryz.underlying31 hi hz0 hz1 hz2 rfl (by decide) (.slice none 0 0) 0 [] rfl (World.ownsRow_nil _ _ _ _) ⟨b, off, none⟩ ls.length cap (cellsL ls) rfl (cellsL_length ls) Hcs2.u (cellsL_one ls) (by unfold maxLen; omega) (by omega) (Nat.le_refl _) ?_; intro vk w3 hown3 hgr3 _; have hb3 := below_of_none hgr3; simp only [Nat.zero_add, List.nil_append] at hown3; obtain ⟨gk, ck, rfl, hgk, hgk'⟩ := oSome hown3 (by omega); have H3 := hI (H2.u.keptX hb3); have c3 := H3.u.blk.cell 1; have z3 := H3.u.blk.frozen 1; have l3 := H3.u.blk.lt; simp only [List.getElem?_toArray, List.getElem?_cons_zero, List.getElem?_cons_succ] at c3; have Hown3 := hI (oBase hown3 (base' := B) (fun k hk => by have := (oTg hown3 k hk).1; omega)); have Hb3 := hI (Hb2.u.then hb3); have hsz3 := hb3.size; clear hown3 hgr3 hb3)
             | (at_builtin; refine wpList_append_own_at _ rfl (.tmp 56) (.tmp 61) 96 rfl B 148 jj (.agg #[.int .i64 0, .int .i64 0, .slice none 0 0]) 3 40 Tryz.underlying96 hj hy0 hy1 hy2 rfl (by decide) (.slice aot tv.length capt) tv.length _ rfl (H3.u.txs.own.alloc _) ⟨w3.heap.size, 0, none⟩ 1 1 [.int .i64 id, .int .i64 day, .slice (some ⟨gk, 0, none⟩) ls.length ck] rfl rfl (new3 _ _ (by simp) _ _ _ _) (fun x hx => by simp at hx; rcases hx with rfl | rfl | rfl <;> rfl) (by unfold maxLen; omega) (by omega) (by simp; omega) ?_; intro vq' w5 hown5 hgr5 _ hat5; obtain ⟨gf, cf, rfl, hgf, hgf'⟩ := oSome hown5 (Nat.succ_pos _); have hblk5 := (H3.u.blk.alloc _).grown hgr5 (blk_own_ne H3.u.blk H3.u.txs.own (by decide)); have c5 := hblk5.cell 1; have z5 := hblk5.frozen 1; have l5 := hblk5.lt; simp only [List.getElem?_toArray, List.getElem?_cons_zero, List.getElem?_cons_succ] at c5; have Hblk5 := hI hblk5; have Hown5 := hI hown5; have Hgr5 := hI hgr5; have Hat5 := hI hat5; clear hblk5 hown5 hgr5 hat5))
           go_ret2
           have hfin := H3.u.post _ (t := (id, day, ls)) Hown3.u Hgr5.u Hblk5.u (s' := { s with txs := s.txs ++ [(id, day, ls)] }) (by rw [cellsT_snoc]; exact Hown5.u) rfl rfl Hgood.u (by unfold cnt; simp) Hat5.u
           refine ⟨rfl, ⟨_, _, _, hfin.1, ?_⟩, (FrX.of_below Hb3.u).trans hfin.2⟩
           intro x hx
           rcases List.mem_append.1 hx with hx | hx
           · exact .inl hx
           · right
             simp only [List.mem_singleton] at hx
             subst hx
             intro k hk
             simp only [Value.ownBlock, Option.some.injEq] at hk
             omega
       · obtain ⟨x, hx⟩ : ∃ x, lnsE s ls = x := ⟨_, rfl⟩
         rw [isN_no (by rw [pst_bad hid hfd hd hlz]), pst_bad hid hfd hd hlz]
         rw [hx] at Hc hlz ⊢
         have hxe : (x == 0) = false := by simpa using hlz
         clear hfd hx
         go_enter Tryz.func105, Tryz.ntmps105
         go_wp2_with fail
         refine Hf.u.mono ?_
         rintro e w1 ⟨⟨t1, v1, ht1, _, _⟩ | ⟨_, rfl⟩, hb1⟩
         · cases ht1
         have Hb1 := hI hb1
         have hsz1 := hb1.size
         clear hb1
         go_wp2_with fail
         refine (Hc.u _ (by exact Hb1.u.alloc hsz1 _)).mono ?_
         rintro e w2 ⟨rfl, hb2⟩
         have Hb2 : Hid (Below w.heap.size w w2) := (Hb1.u.alloc hsz1 _).then' (by simp; omega) hb2
         clear hb2
         go_wp2_with fail
         go_ret2
         exact ⟨rfl, .same (H.u.keptX Hb2.u), FrX.of_below Hb2.u⟩
theorem dayPostM_any (X : Nat → Prop) (B p u : Nat) (ws : List Wr) (s : Bk) (id day : Int) (v : Value) (ls : List Ln) (w : World) (va vt vw : Value) (tv : List (Tn × Value)) (h : LedAx X w B p va vt tv ⟨u, vw, ws⟩ s) (hl : LinesAt w v ls) (hty : ∀ k, v.ownBlock = some k → Tg w k 89) :
  Calls Tryz.prog 69 #[.pointer (some ⟨p, 0, none⟩), .int .i64 id, .int .i64 day, v] w fun e w' => e = .returned (.int .i64 (pst s id day ls).1) ∧ (∃ vw', LedM X w tv w' B p ⟨dkU (isN s id day ls) u, vw', dkW (isN s id day ls) u (secB 3 id day ls) ws⟩ (pst s id day ls).2) ∧ FrX X B tP w w' := by
 have hg := h.good
 have hcn := h.dcnt
 have hbd := cnt_bound hg
 have hfew := hg.few
 simp only at hcn
 have Hc := hI (ledPostM_any X B p s id day v ls w va vt tv ⟨u, vw, ws⟩ h hl)
 have hor := pst_cnt hg id day ls
 obtain ⟨ao, cap, rfl⟩ := hl.form
 have Hl := hI hl
 have Hty := hI hty
 obtain ⟨⟨y, s'⟩, hr⟩ : ∃ r, pst s id day ls = r := ⟨_, rfl⟩
 rw [hr] at Hc hor ⊢
 obtain ⟨nw, hnw⟩ : ∃ r, isN s id day ls = r := ⟨_, rfl⟩
 rw [hnw] at Hc hor ⊢
 simp only at Hc hor ⊢
 clear h hr hg hl hty hnw
 rcases hor with ⟨rfl, rfl, h0, h1, h2, h3, h4, h5, h6, h7⟩ | ⟨rfl, rfl⟩
 ·have hn : AmtOk id := ⟨by omega, by omega⟩
  have hz : AmtOk day := ⟨by omega, by omega⟩
  have hlt : u < cnt s' := by omega
  have hu : u ≤ 95 := by omega
  have Hls : Hid (∀ l ∈ ls, AmtOk l.1 ∧ AmtOk l.2) := fun l hl => by have := h5 l hl; exact ⟨⟨by omega, by omega⟩, ⟨by omega, by omega⟩⟩
  clear h5 h6
  go_enter Tryz.func69, Tryz.ntmps69
  go_wp2_with fail
  refine Hc.u.mono ?_
  rintro e w1 ⟨rfl, ⟨va1, vt1, tv1, k1, k3⟩, k2⟩
  have HL := hI (layX_any X B p u va1 vt1 vw ws 3 id day _ ls w1 k1.blk k1.lo k1.dsk k1.dlen hu k1.xp k1.xw k1.top (by omega) hn hz (Hl.u.frTy k2.fr Hty.u (by decide)) h4 Hls.u)
  have K1 := hI k1
  have K2 := hI k2
  have K3 := hI k3
  clear k1 k2 k3 Hc
  go_wp2_with fail
  refine HL.u.mono ?_
  rintro e w2 ⟨rfl, ⟨vw2, j1, j2, j4⟩, j3⟩
  have HF : Hid ((∃ vw', LedM X w tv w2 B p ⟨u + 1, vw', ws ++ [((u : Int), secB 3 id day ls), (-1, ⟨#[]⟩)]⟩ s') ∧ FrX X B tP w w2) := ⟨⟨_, _, _, _, K1.u.laidX hlt j1 j2 j3 j4, K3.u⟩, K2.u.trans (j3.mono (by simp [tP]))⟩
  clear j1 j2 j3 j4 HL K1 K2 K3
  go_wp2_with fail
  go_ret
  exact ⟨rfl, HF.u.1, HF.u.2⟩
 ·go_enter Tryz.func69, Tryz.ntmps69
  go_wp2_with fail
  refine Hc.u.mono ?_
  rintro e w1 ⟨rfl, k1, k2⟩
  have K1 := hI k1
  have K2 := hI k2
  clear k1 k2 Hc
  go_wp2_with fail
  go_ret
  exact ⟨rfl, ⟨_, K1.u⟩, K2.u⟩
def PrW (ws : List Wr) : Prop := ∀ x ∈ ws, (x.1 = -1 ∧ x.2 = ⟨#[]⟩) ∨ (0 ≤ x.1 ∧ x.1 < 128 ∧ x.2.size = 64)
theorem PrW.more {y : Bool} {u : Nat} {x : ByteArray} {ws : List Wr} (h : PrW ws) (hu : y = true → u < 128 ∧ x.size = 64) : PrW (dkW y u x ws) := by
 unfold dkW
 cases y with
 | false => exact h
 | true =>
  obtain ⟨h1, h2⟩ := hu rfl
  intro z hz
  simp only [if_true, List.mem_append, List.mem_cons, List.not_mem_nil, or_false] at hz
  rcases hz with hz | rfl | rfl
  ·exact h z hz
  ·exact .inr ⟨by simp only; omega, by simp only; omega, h2⟩
  ·exact .inl ⟨rfl, rfl⟩
theorem secB_sz (k : Nat) (n d : Int) (ls : List Ln) (h : ls.length ≤ 4) : (secB k n d ls).size = 64 := by
 unfold secB; rw [size_L, L_list, secL_length k n d ls h]
def Ledx (X : Nat → Prop) (w : World) (B p : Nat) (s : Bk) : Prop := ∃ va vt tv d, LedAx X w B p va vt tv d s ∧ PrW d.ws
theorem Ledx.led {X : Nat → Prop} {w : World} {B p : Nat} {s : Bk} (h : Ledx X w B p s) : Led w B p s := by obtain ⟨va, vt, tv, d, h, _⟩ := h; exact ⟨va, vt, tv, d, h.toLedAt⟩
theorem Ledx.keptX {X : Nat → Prop} {w w' : World} {B p : Nat} {s : Bk} (h : Ledx X w B p s) (hb : Below w.heap.size w w') : Ledx X w' B p s := by obtain ⟨va, vt, tv, d, h, hp⟩ := h; exact ⟨va, vt, tv, d, h.keptX hb, hp⟩
theorem Ledx.some {X : Nat → Prop} {w : World} {B p : Nat} {s : Bk} (h : Ledx X w B p s) : ∃ u ws, LedWx X w B p u ws s ∧ PrW ws ∧ u ≤ 95 ∧ BkGood s := by
 obtain ⟨va, vt, tv, ⟨u, vw, ws⟩, h, hp⟩ := h
 have h1 := h.dcnt
 have h2 := cnt_bound h.good
 simp only at h1
 exact ⟨u, ws, ⟨va, vt, tv, vw, h⟩, hp, by omega, h.good⟩
theorem LedWx.x {X : Nat → Prop} {w : World} {B p u : Nat} {ws : List Wr} {s : Bk} (h : LedWx X w B p u ws s) (hp : PrW ws) : Ledx X w B p s := by obtain ⟨va, vt, tv, vw, h⟩ := h; exact ⟨va, vt, tv, _, h, hp⟩
theorem Ledx.frR {X Y : Nat → Prop} {w w' : World} {B B' p : Nat} {s : Bk} (h : Ledx X w B p s) (hf : FrX Y B' tR w w') : Ledx X w' B p s := by
 obtain ⟨va, vt, tv, d, h, hp⟩ := h
 exact ⟨va, vt, tv, d, ⟨h.toLedAt.frT hf.fr (by decide) (by decide), h.xp, h.xa, h.xt, h.xw, fun k hk => Nat.lt_of_lt_of_le (h.top k hk) hf.fr.size⟩, hp⟩
theorem Rfdx.frP {X Y : Nat → Prop} {w w' : World} {B B' p : Nat} {s : Bk} (h : Rfdx X w B p s) (hf : FrX Y B' tP w w') : Rfdx X w' B p s := by
 obtain ⟨vp, vc, vt, tv, h⟩ := h
 exact ⟨vp, vc, vt, tv, h.toRefAt.frT hf.fr (by decide) (by decide), h.xq, h.xp, h.xc, h.xt, fun k hk => Nat.lt_of_lt_of_le (h.top k hk) hf.fr.size⟩
theorem Ledx.drew {X : Nat → Prop} {w : World} {B p : Nat} {s : Bk} (h : Ledx X w B p s) : Ledx X w.drew B p s := h.keptX (below_drew w)
theorem Rfdx.drew {X : Nat → Prop} {w : World} {B p : Nat} {s : Bk} (h : Rfdx X w B p s) : Rfdx X w.drew B p s := h.keptX (below_drew w)
theorem dayOpenL_any (X : Nat → Prop) (B p : Nat) (s : Bk) (a : Int) (w : World) (h : Ledx X w B p s) :
  Calls Tryz.prog 66 #[.pointer (some ⟨p, 0, none⟩), .int .i64 a] w fun e w' => e = .returned (.tuple #[.int .i64 (opn s a).1, .int .i64 (opn s a).2.1]) ∧ Ledx X w' B p (opn s a).2.2 ∧ FrX X B tP w w' := by
 obtain ⟨u, ws, h, hp, hu, _⟩ := h.some
 exact (dayOpenX_any X B p u ws s a w h).mono fun e w' ⟨h1, h2, h3⟩ => ⟨h1, h2.x (hp.more (fun _ => ⟨by omega, secB_sz _ _ _ _ (by simp)⟩)), h3⟩
theorem dayCloseL_any (X : Nat → Prop) (B p : Nat) (s : Bk) (a : Int) (w : World) (h : Ledx X w B p s) :
  Calls Tryz.prog 67 #[.pointer (some ⟨p, 0, none⟩), .int .i64 a] w fun e w' => e = .returned (.int .i64 (cls s a).1) ∧ Ledx X w' B p (cls s a).2 ∧ FrX X B tP w w' := by
 obtain ⟨u, ws, h, hp, hu, _⟩ := h.some
 exact (dayCloseX_any X B p u ws s a w h).mono fun e w' ⟨h1, h2, h3⟩ => ⟨h1, h2.x (hp.more (fun _ => ⟨by omega, secB_sz _ _ _ _ (by simp)⟩)), h3⟩
structure PairX (X : Nat → Prop) (w : World) (B q p c : Nat) (vh vl : Value) (s : Bk) : Prop where
 blk : Blk w q #[.pointer (some ⟨p, 0, none⟩), .pointer (some ⟨c, 0, none⟩), vh, vl] 30
 led : Ledx X w B p s
 rfd : Rfdx X w B c s
theorem PairX.keptX {X : Nat → Prop} {w w' : World} {B q p c : Nat} {vh vl : Value} {s : Bk} (h : PairX X w B q p c vh vl s) (hb : Below w.heap.size w w') : PairX X w' B q p c vh vl s := ⟨h.blk.kept hb, h.led.keptX hb, h.rfd.keptX hb⟩
theorem openedX_any (X : Nat → Prop) (B q p c : Nat) (vh vl : Value) (s : Bk) (kd bk a b : Int) (ao : Option Addr) (n cap : Nat) (t : ByteArray) (w : World) (h : PairX X w B q p c vh vl s) :
  Calls Tryz.prog 81 #[.pointer (some ⟨q, 0, none⟩), .agg #[.int .i64 kd, .int .i64 bk, .int .i64 a, .int .i64 b, .slice ao n cap, .string t]] w fun e w' => e = .returned (.bool true) ∧ PairX X w' B q p c vh vl (opn s a).2.2 ∧ FrX X B tAll w w' := by
 obtain ⟨bx, hbx⟩ : ∃ bx, w.heap.size = bx := ⟨_, rfl⟩
 obtain ⟨W, hW⟩ : ∃ W, w.alloc (.cells #[.int .i64 kd, .int .i64 bk, .int .i64 a, .int .i64 b, .slice ao n cap, .string t] 33) = W := ⟨_, rfl⟩
 have HX : Hid (Blk W bx #[.int .i64 kd, .int .i64 bk, .int .i64 a, .int .i64 b, .slice ao n cap, .string t] 33) := by rw [← hW, ← hbx]; exact Blk.new _ _ _
 have Hb0 : Hid (Below w.heap.size w W) := by rw [← hW]; exact (Below.refl _ _).alloc (Nat.le_refl _) _
 have H0 := hI (h.keptX Hb0.u)
 have Hop := hI (fun (wx : World) (h : Ledx X wx B p s) => dayOpenL_any X B p s a wx h)
 have Hor := hI (fun (wx : World) (h : Rfdx X wx B c s) => refOpenX_any X B c s a wx h)
 obtain ⟨⟨x, y, s'⟩, hr⟩ : ∃ r, opn s a = r := ⟨_, rfl⟩
 rw [hr] at Hop Hor ⊢
 simp only at Hop Hor ⊢
 have c0 := H0.u.blk.cell 0
 have x2 := HX.u.cell 2
 simp only [List.getElem?_toArray, List.getElem?_cons_zero, List.getElem?_cons_succ] at c0 x2
 clear h hr
 go_enter Tryz.func81, Tryz.ntmps81
 go_upto_region 1 with fail
 try rw [hW]
 try rw [hbx]
 clear hW hbx
 go_region_held3 (fun w' => w'.cell? ⟨q, 0, none⟩ = some (.pointer (some ⟨p, 0, none⟩)) ∧ w'.cell? ⟨bx, 2, none⟩ = some (.int .i64 a)) (first | go_keep | exact ⟨k1, k2⟩) (first | (go_at_call 66; refine (Hop.u _ (by exact H0.u.led.drew)).mono ?_; rintro e w4 ⟨rfl, h1, h2⟩; have h2u := h2.undrew; have k1 := (H0.u.blk.frT h2u.fr (by decide)).cell 0; have k2 := (HX.u.frT h2u.fr (by decide)).cell 2; simp only [List.getElem?_toArray, List.getElem?_cons_zero, List.getElem?_cons_succ] at k1 k2))
 have HL4 := hI h1
 have HF4 := hI h2.undrew
 have HB4 := hI (H0.u.blk.frT h2.undrew.fr (by decide))
 have HX4 := hI (HX.u.frT h2.undrew.fr (by decide))
 have HR4 := hI (H0.u.rfd.frP h2.undrew)
 have k3 := HB4.u.cell 1
 simp only [List.getElem?_toArray, List.getElem?_cons_zero, List.getElem?_cons_succ] at k3
 clear h1 h2 h2u k1 c0 x2
 go_upto_region 2 with fail
 go_region_held3 (fun w' => w'.cell? ⟨q, 1, none⟩ = some (.pointer (some ⟨c, 0, none⟩)) ∧ w'.cell? ⟨bx, 2, none⟩ = some (.int .i64 a)) (first | go_keep | exact ⟨j1, j2⟩) (first | (go_at_call 13; refine (Hor.u _ (by exact HR4.u.drew)).mono ?_; rintro e w5 ⟨rfl, h1, h2⟩; have h2u := h2.undrew; have j1 := (HB4.u.frT h2u.fr (by decide)).cell 1; have j2 := (HX4.u.frT h2u.fr (by decide)).cell 2; simp only [List.getElem?_toArray, List.getElem?_cons_zero, List.getElem?_cons_succ] at j1 j2))
 have HF : Hid (PairX X w5 B q p c vh vl s' ∧ FrX X B tAll w w5) := ⟨⟨HB4.u.frT h2.undrew.fr (by decide), HL4.u.frR h2.undrew, h1⟩, ((FrX.of_below Hb0.u).trans (HF4.u.mono (by simp [tAll]; intros; simp [*]))).trans (h2.undrew.mono (by simp [tAll]; intros; simp [*]))⟩
 have e1 : (x == x) = true := by simp
 have e2 : (y == y) = true := by simp
 clear h1 h2 h2u j1 j2 k2 k3
 go_wp2_with fail
 go_ret
 exact ⟨rfl, HF.u.1, HF.u.2⟩
theorem closedX_any (X : Nat → Prop) (B q p c : Nat) (vh vl : Value) (s : Bk) (kd bk a b : Int) (ao : Option Addr) (n cap : Nat) (t : ByteArray) (w : World) (h : PairX X w B q p c vh vl s) :
  Calls Tryz.prog 82 #[.pointer (some ⟨q, 0, none⟩), .agg #[.int .i64 kd, .int .i64 bk, .int .i64 a, .int .i64 b, .slice ao n cap, .string t]] w fun e w' => e = .returned (.bool true) ∧ PairX X w' B q p c vh vl (cls s a).2 ∧ FrX X B tAll w w' := by
 obtain ⟨bx, hbx⟩ : ∃ bx, w.heap.size = bx := ⟨_, rfl⟩
 obtain ⟨W, hW⟩ : ∃ W, w.alloc (.cells #[.int .i64 kd, .int .i64 bk, .int .i64 a, .int .i64 b, .slice ao n cap, .string t] 33) = W := ⟨_, rfl⟩
 have HX : Hid (Blk W bx #[.int .i64 kd, .int .i64 bk, .int .i64 a, .int .i64 b, .slice ao n cap, .string t] 33) := by rw [← hW, ← hbx]; exact Blk.new _ _ _
 have Hb0 : Hid (Below w.heap.size w W) := by rw [← hW]; exact (Below.refl _ _).alloc (Nat.le_refl _) _
 have H0 := hI (h.keptX Hb0.u)
 have Hop := hI (fun (wx : World) (h : Ledx X wx B p s) => dayCloseL_any X B p s a wx h)
 have Hor := hI (fun (wx : World) (h : Rfdx X wx B c s) => refCloseX_any X B c s a wx h)
 obtain ⟨⟨x, s'⟩, hr⟩ : ∃ r, cls s a = r := ⟨_, rfl⟩
 rw [hr] at Hop Hor ⊢
 simp only at Hop Hor ⊢
 have c0 := H0.u.blk.cell 0
 have x2 := HX.u.cell 2
 simp only [List.getElem?_toArray, List.getElem?_cons_zero, List.getElem?_cons_succ] at c0 x2
 clear h hr
 go_enter Tryz.func82, Tryz.ntmps82
 go_upto_region 1 with fail
 try rw [hW]
 try rw [hbx]
 clear hW hbx
 go_region_held3 (fun w' => w'.cell? ⟨q, 0, none⟩ = some (.pointer (some ⟨p, 0, none⟩)) ∧ w'.cell? ⟨bx, 2, none⟩ = some (.int .i64 a)) (first | go_keep | exact ⟨k1, k2⟩) (first | (go_at_call 67; refine (Hop.u _ (by exact H0.u.led.drew)).mono ?_; rintro e w4 ⟨rfl, h1, h2⟩; have h2u := h2.undrew; have k1 := (H0.u.blk.frT h2u.fr (by decide)).cell 0; have k2 := (HX.u.frT h2u.fr (by decide)).cell 2; simp only [List.getElem?_toArray, List.getElem?_cons_zero, List.getElem?_cons_succ] at k1 k2))
 have HL4 := hI h1
 have HF4 := hI h2.undrew
 have HB4 := hI (H0.u.blk.frT h2.undrew.fr (by decide))
 have HX4 := hI (HX.u.frT h2.undrew.fr (by decide))
 have HR4 := hI (H0.u.rfd.frP h2.undrew)
 have k3 := HB4.u.cell 1
 simp only [List.getElem?_toArray, List.getElem?_cons_zero, List.getElem?_cons_succ] at k3
 clear h1 h2 h2u k1 c0 x2
 go_upto_region 2 with fail
 go_region_held3 (fun w' => w'.cell? ⟨q, 1, none⟩ = some (.pointer (some ⟨c, 0, none⟩)) ∧ w'.cell? ⟨bx, 2, none⟩ = some (.int .i64 a)) (first | go_keep | exact ⟨j1, j2⟩) (first | (go_at_call 14; refine (Hor.u _ (by exact HR4.u.drew)).mono ?_; rintro e w5 ⟨rfl, h1, h2⟩; have h2u := h2.undrew; have j1 := (HB4.u.frT h2u.fr (by decide)).cell 1; have j2 := (HX4.u.frT h2u.fr (by decide)).cell 2; simp only [List.getElem?_toArray, List.getElem?_cons_zero, List.getElem?_cons_succ] at j1 j2))
 have HF : Hid (PairX X w5 B q p c vh vl s' ∧ FrX X B tAll w w5) := ⟨⟨HB4.u.frT h2.undrew.fr (by decide), HL4.u.frR h2.undrew, h1⟩, ((FrX.of_below Hb0.u).trans (HF4.u.mono (by simp [tAll]; intros; simp [*]))).trans (h2.undrew.mono (by simp [tAll]; intros; simp [*]))⟩
 have e1 : (x == x) = true := by simp
 clear h1 h2 h2u j1 j2 k2 k3
 go_wp2_with fail
 go_ret
 exact ⟨rfl, HF.u.1, HF.u.2⟩
theorem oDown {w : World} {B B' : Nat} {e : TypeId} {size : Nat} {v : Value} {n : Nat} {xs : List Value} (h : w.ownsRow B e size v n xs) (hB : B' ≤ B) : w.ownsRow B' e size v n xs :=
 oBase h (fun k hk => Nat.le_trans hB (oTg h k hk).1)
theorem RefAt.base {w : World} {B B' p : Nat} {vp vc vt : Value} {tv : List (Tn × Value)} {s : Bk} (h : RefAt w B p vp vc vt tv s) (hB : B' ≤ B) : RefAt w B' p vp vc vt tv s :=
 ⟨h.blk, Nat.le_trans hB h.lo, oDown h.par hB, oDown h.clo hB, ⟨oDown h.txs.own hB, fun x hx => oDown (h.txs.lns x hx) hB⟩, h.jr, h.good⟩
structure ActV where
 kd : Int
 bk : Int
 a : Int
 b : Int
 ao : Option Addr
 cap : Nat
 ls : List Ln
 t : ByteArray
def ActV.val (x : ActV) : Value := .agg #[.int .i64 x.kd, .int .i64 x.bk, .int .i64 x.a, .int .i64 x.b, .slice x.ao x.ls.length x.cap, .string x.t]
structure ActOk (w : World) (B : Nat) (x : ActV) : Prop where
 at' : LinesAt w (.slice x.ao x.ls.length x.cap) x.ls
 lo : x.ls = [] ∨ ∀ k, (Value.slice x.ao x.ls.length x.cap).ownBlock = some k → k < B
 few : x.ls.length ≤ 8796093022000
 txt : x.t.size ≤ maxLen
def stp (s : Bk) (x : ActV) : Bk := if x.kd == 1 then (opn s x.a).2.2 else if x.kd == 2 then (cls s x.a).2 else if x.kd == 3 then (pst s x.a x.b x.ls).2 else s
structure ActsAt (w : World) (B : Nat) (v : Value) (xs : List ActV) : Prop where
 form : ∃ ao cap, v = .slice ao xs.length cap ∧ (xs = [] ∨ ∃ b off, ao = some ⟨b, off, none⟩ ∧ b < B ∧ ∀ (i : Nat) (x : ActV), xs[i]? = some x →
  w.cell? ⟨b, off + i * 6, none⟩ = some (.int .i64 x.kd) ∧ w.cell? ⟨b, off + i * 6 + 1, none⟩ = some (.int .i64 x.bk) ∧ w.cell? ⟨b, off + i * 6 + 2, none⟩ = some (.int .i64 x.a) ∧ w.cell? ⟨b, off + i * 6 + 3, none⟩ = some (.int .i64 x.b) ∧
  w.cell? ⟨b, off + i * 6 + 4, none⟩ = some (.slice x.ao x.ls.length x.cap) ∧ w.cell? ⟨b, off + i * 6 + 5, none⟩ = some (.string x.t))
 oks : ∀ x ∈ xs, ActOk w B x
theorem LinesAt.below {w w' : World} {B : Nat} {v : Value} {ls : List Ln} (h : LinesAt w v ls) (hb : Below B w w') (hg : ls = [] ∨ ∀ k, v.ownBlock = some k → k < B) : LinesAt w' v ls := by
 obtain ⟨ao, cap, rfl, hr⟩ := h
 refine ⟨ao, cap, rfl, ?_⟩
 rcases hg with hg | hg
 ·exact .inl hg
 rcases hr with hr | ⟨b, off, rfl, hlt, hc⟩
 ·exact .inl hr
 ·refine .inr ⟨b, off, rfl, Nat.lt_of_lt_of_le hlt hb.size, fun i l hl => ?_⟩
  rw [hb.cell (p := ⟨b, off + i * 2, none⟩) (hg b rfl), hb.cell (p := ⟨b, off + i * 2 + 1, none⟩) (hg b rfl)]
  exact hc i l hl
theorem ActsAt.below {w w' : World} {B : Nat} {v : Value} {xs : List ActV} (h : ActsAt w B v xs) (hb : Below B w w') : ActsAt w' B v xs := by
 obtain ⟨⟨ao, cap, rfl, hr⟩, ho⟩ := h
 refine ⟨⟨ao, cap, rfl, ?_⟩, fun x hx => ⟨(ho x hx).at'.below hb (ho x hx).lo, (ho x hx).lo, (ho x hx).few, (ho x hx).txt⟩⟩
 rcases hr with hr | ⟨b, off, rfl, hlt, hc⟩
 ·exact .inl hr
 ·refine .inr ⟨b, off, rfl, hlt, fun i x hx => ?_⟩
  have h1 : ∀ j, w'.cell? ⟨b, j, none⟩ = w.cell? ⟨b, j, none⟩ := fun j => hb.cell (p := ⟨b, j, none⟩) hlt
  rw [h1, h1, h1, h1, h1, h1]
  exact hc i x hx
theorem within_any (B p : Nat) (s : Bk) (a n : Int) (w : World) (h : Rfd w B p s) (ha : a < s.acs.length) :
  Calls Tryz.prog 195 #[.pointer (some ⟨p, 0, none⟩), .int .i64 a, .int .i64 n] w fun e w' => e = .returned (.bool (wth s.acs n 16 a)) ∧ w' = w := by
 obtain ⟨vp, vc, vt, tv, h⟩ := h
 obtain ⟨g, cap, rfl, hg, hg'⟩ := oSome h.par h.good.one
 have c0 := h.blk.cell 0
 simp only [List.getElem?_toArray, List.getElem?_cons_zero] at c0
 have hfew := h.good.few
 have H := hI h
 clear h
 go_enter Tryz.func195, Tryz.ntmps195
 go_wp2_with fail
 go_loopg [1, 7] 16 (fun m v i wr => ∃ j : Nat, ∃ x : Int, j ≤ 16 ∧ m = 16 - j ∧ i = .int .i64 j ∧ v = .int .i64 x ∧ x < s.acs.length ∧ Hid (wth s.acs n (16 - j) x = wth s.acs n 16 a) ∧ wr = w)
 case atStart => exact ⟨0, a, by omega, rfl, rfl, rfl, ha, rfl, rfl⟩
 case round =>
  obtain ⟨j, x, hj, rfl, rfl, rfl, hx, Ho, rfl⟩ := hrel
  by_cases hlt : j < 16
  ·obtain ⟨f, hf⟩ : ∃ f, 16 - j = f + 1 := ⟨15 - j, by omega⟩
   have hw := Ho.u
   rw [hf, wth_at] at hw
   by_cases h0 : x < 0
   ·have hng : ¬ 0 ≤ x := by omega
    rw [if_pos h0] at hw
    have Hw := hI hw
    clear hw
    go_wp2_with fail
    go_ret
    exact ⟨retB' Hw.u, rfl⟩
   ·rw [if_neg h0] at hw
    have h0' : 0 ≤ x := by omega
    by_cases hn : x = n
    ·subst hn
     rw [if_pos (by simp)] at hw
     have Hw := hI hw
     clear hw
     go_wp2_with fail
     go_ret
     exact ⟨retB' Hw.u, rfl⟩
    ·have hne : (x == n) = false := by simpa using hn
     rw [hne] at hw
     simp only [Bool.false_eq_true, if_false] at hw
     obtain ⟨k, rfl⟩ : ∃ k : Nat, x = k := ⟨x.toNat, by omega⟩
     have hk : k < s.acs.length := by omega
     obtain ⟨c, hc⟩ := acs_get hk
     rw [Int.toNat_natCast, List.getD_eq_getElem?_getD, hc, Option.getD_some] at hw
     have hord := H.u.good.ord _ _ hc
     have d := oCell H.u.par (j := k) (u := .int .i64 c.1) (by rw [List.getElem?_map, hc]; rfl)
     have Hw := hI hw
     obtain ⟨c1, c2⟩ := c
     simp only at d hord Hw
     clear hw hc
     go_wp2_with fail
     go_roundg (16 - (j + 1))
     case measure => omega
     case rel => exact ⟨j + 1, c1, by omega, rfl, by go_num, rfl, by omega, by show _ = _; rw [show 16 - (j + 1) = f by omega]; exact Hw.u, rfl⟩
  ·obtain rfl : j = 16 := by omega
   have Hw : Hid (false = wth s.acs n 16 a) := Ho.u
   clear Ho
   go_wp2_with fail
   go_ret
   exact ⟨retB' Hw.u, rfl⟩
theorem taken_any (B p : Nat) (s : Bk) (sel n a b : Int) (w : World) (h : Rfd w B p s) :
  Calls Tryz.prog 165 #[.pointer (some ⟨p, 0, none⟩), .int .u8 sel, .int .i64 n, .int .i64 a, .int .i64 b] w fun e w' => e = .returned (.tuple #[.int .i64 (tkT (inA s sel n) a b s.txs).1, .int .i64 (tkT (inA s sel n) a b s.txs).2]) ∧ Below w.heap.size w w' := by
 have Hwi := hI (fun (wx : World) (x : Int) (hx : x < s.acs.length) (h : Rfd wx B p s) => within_any B p s x n wx h hx)
 obtain ⟨vp, vc, vt, tv, h⟩ := h
 obtain ⟨ao, cap, rfl⟩ := oForm h.txs.own
 have c2 := h.blk.cell 2
 simp only [List.getElem?_toArray, List.getElem?_cons_zero, List.getElem?_cons_succ] at c2
 have hlen : tv.length ≤ 64 := by have := h.good.posts; rw [← h.jr, List.length_map] at this; exact this
 have Hjr := hI h.jr
 obtain ⟨q, hq⟩ : ∃ q, inA s sel n = q := ⟨_, rfl⟩
 have Hq := hI hq
 rw [hq]
 have H := hI h
 clear h hq
 go_enter Tryz.func165, Tryz.ntmps165
 go_wp2_with fail
 go_loopg [12, 13, 14] tv.length (fun m v u i wr => ∃ j : Nat, ∃ x : Int, ∃ c : Int, j ≤ tv.length ∧ m = tv.length - j ∧ i = .int .i64 j ∧ v = .int .i64 x ∧ u = .int .i64 c ∧ -(4000000000000 * (j : Int)) ≤ x ∧ x ≤ 4000000000000 * (j : Int) ∧ 0 ≤ c ∧ c ≤ 4 * (j : Int) ∧ Hid (x + (tkT q a b (s.txs.drop j)).1 = (tkT q a b s.txs).1 ∧ c + (tkT q a b (s.txs.drop j)).2 = (tkT q a b s.txs).2) ∧ Hid (Below w.heap.size w wr))
 case atStart => exact ⟨0, 0, 0, by omega, rfl, rfl, rfl, rfl, by omega, by omega, by omega, by omega, ⟨by simp, by simp⟩, Below.refl _ _⟩
 case round =>
  obtain ⟨j, x, c, hj, rfl, rfl, rfl, rfl, hx0, hx1, hc0, hc1, Ho, Hb⟩ := hrel
  have hsz := Hb.u.size
  have HB := hI (H.u.blk.kept Hb.u)
  have e2 := HB.u.cell 2
  simp only [List.getElem?_toArray, List.getElem?_cons_zero, List.getElem?_cons_succ] at e2
  by_cases hlt : j < tv.length
  ·obtain ⟨⟨t, v⟩, ht⟩ : ∃ t, tv[j]? = some t := ⟨tv[j], List.getElem?_eq_getElem hlt⟩
   obtain ⟨g, _, e1, hg, hg'⟩ := oSome H.u.txs.own (by omega)
   simp only [Value.slice.injEq, true_and] at e1
   obtain ⟨rfl, rfl⟩ := e1
   have h3 := three_get (fun x : Tn × Value => Value.int .i64 x.1.1) (fun x => .int .i64 x.1.2.1) (fun x => x.2) tv j (t, v) ht
   have hro := oBelow H.u.txs.own Hb.u
   have d0 := oCell hro (j := j * 3) h3.1
   have d1 := oCell hro (j := j * 3 + 1) h3.2.1
   have d2 := oCell hro (j := j * 3 + 2) h3.2.2
   have hmem := List.mem_of_getElem? ht
   have hl := H.u.txs.lns _ hmem
   have hst : s.txs[j]? = some t := by rw [← Hjr.u, List.getElem?_map, ht]; rfl
   have hgt := H.u.good.tx t (List.mem_of_getElem? hst)
   have hga := H.u.good.acc t (List.mem_of_getElem? hst)
   have Hst := hI (tkT_O (q := q) (a := a) (b := b) hst)
   obtain ⟨ti, td, ls⟩ := t
   simp only at d0 d1 d2 hl hgt Hst hga
   obtain ⟨aol, capl, rfl⟩ := oForm hl
   have hl4 := hgt.2.2.2.2.1
   have Hlb := hI hgt.2.2.2.2.2
   have Hga := hI hga
   have Hl := hI (oBelow hl Hb.u)
   clear h3 hro hmem hl hst hgt ht hga
   obtain ⟨ok, hok⟩ : ∃ ok, inD a b td = ok := ⟨_, rfl⟩
   rw [hok] at Hst
   go_wp2_with fail
   obtain ⟨W, hW⟩ : ∃ W, W = wr.alloc (.cells #[.int .i64 ti, .int .i64 td, .slice aol ls.length capl] 87) := ⟨_, rfl⟩
   have HbW : Hid (Below w.heap.size w W) := by rw [hW]; exact Hb.u.alloc hsz _
   have HlW : Hid (W.ownsRow B 89 2 (.slice aol ls.length capl) ls.length (cellsL ls)) := by rw [hW]; exact Hl.u.alloc _
   have HTx : Hid (Blk W wr.heap.size #[.int .i64 ti, .int .i64 td, .slice aol ls.length capl] 87) := by rw [hW]; exact Blk.new _ _ _
   have hWs : W.heap.size = wr.heap.size + 1 := by rw [hW]; simp
   rw [← hW]
   clear hW
   go_loopg [12, 13, 16] ls.length (fun m v u i wx => ∃ k : Nat, ∃ y : Int, ∃ z : Int, k ≤ ls.length ∧ m = ls.length - k ∧ i = .int .i64 k ∧ v = .int .i64 y ∧ u = .int .i64 z ∧ -(4000000000000 * (j : Int)) - 1000000000000 * (k : Int) ≤ y ∧ y ≤ 4000000000000 * (j : Int) + 1000000000000 * (k : Int) ∧ 0 ≤ z ∧ z ≤ 4 * (j : Int) + k ∧ Hid (y + (tkO ok q (ls.drop k)).1 = x + (tkO ok q ls).1 ∧ z + (tkO ok q (ls.drop k)).2 = c + (tkO ok q ls).2) ∧ wx = W)
   case atStart => exact ⟨0, x, c, by omega, rfl, rfl, rfl, rfl, by omega, by omega, by omega, by omega, ⟨by simp, by simp⟩, rfl⟩
   case round =>
    obtain ⟨k, y, z, hk, rfl, rfl, rfl, rfl, hy0, hy1, hz0, hz1, Hy, hWx⟩ := hrel
    subst hWx
    have hszW := HbW.u.size
    have t1 := HTx.u.cell 1
    have t2 := HTx.u.cell 2
    simp only [List.getElem?_toArray, List.getElem?_cons_zero, List.getElem?_cons_succ] at t1 t2
    by_cases hlt2 : k < ls.length
    ·obtain ⟨⟨la, lm⟩, hlk⟩ : ∃ l, ls[k]? = some l := ⟨ls[k], List.getElem?_eq_getElem hlt2⟩
     obtain ⟨g2, _, e1, hg2, hg2'⟩ := oSome HlW.u (by omega)
     simp only [Value.slice.injEq, true_and] at e1
     obtain ⟨rfl, rfl⟩ := e1
     have h2 := two_get (fun x : Ln => Value.int .i64 x.1) (fun x => .int .i64 x.2) ls k (la, lm) hlk
     have f0 := oCell HlW.u (j := k * 2) h2.1
     have f1 := oCell HlW.u (j := k * 2 + 1) h2.2
     have hb := Hlb.u (la, lm) (List.mem_of_getElem? hlk)
     have hla := Hga.u (la, lm) (List.mem_of_getElem? hlk)
     have Hyes := hI (tkO_yes (ok := ok) (q := q) hlk)
     have Hno := hI (tkO_no (ok := ok) (q := q) hlk)
     simp only at f0 f1 hb hla Hyes Hno
     clear h2 hlk
     obtain ⟨wv, hwv⟩ : ∃ wv, wth s.acs n 16 la = wv := ⟨_, rfl⟩
     have Hc := hI (Hwi.u wr la hla ⟨_, _, _, _, H.u.kept HbW.u⟩)
     rw [hwv] at Hc
     have Hwr : Hid (lm ≤ 1000000000000 ∧ -1000000000000 ≤ lm) := ⟨hb.2.2.2, hb.2.2.1⟩
     have hwr : IntKind.i64.wrap (y + lm) = y + lm := by rw [IntKind.wrap_i64]; omega
     have hwz : IntKind.i64.wrap (z + 1) = z + 1 := by rw [IntKind.wrap_i64]; omega
     clear hb
     go_wp2_with fail
     refine Hc.u.mono ?_
     rintro e w1 ⟨rfl, hw1⟩
     subst hw1
     have Hin : Hid (q la = if sel == 33 then la == n else wv) := by show _ = _; rw [← Hq.u, ← hwv]; rfl
     clear hwv Hc
     by_cases hs : sel = 33
     ·subst hs
      have Hin2 : Hid (q la = (la == n)) := by show _ = _; have := Hin.u; simpa using this
      clear Hin
      cases hv : (la == n) with
      | false =>
       have Hn := hI (Hno.u (.inl (by rw [Hin2.u, hv])))
       go_wp2_with fail
       go_roundg (ls.length - (k + 1))
       case measure => omega
       case rel => exact ⟨k + 1, y, z, by omega, rfl, by go_num, rfl, rfl, by omega, by omega, by omega, by omega, by have h1 := Hy.u; have h2 := Hn.u; show _ ∧ _; omega, rfl⟩
      | true =>
       have Hqt : Hid (q la = true) := by show _ = _; rw [Hin2.u, hv]
       by_cases e1 : a ≤ td
       ·by_cases e2 : td ≤ b
        ·have Hn := hI (Hyes.u (by rw [← hok]; simp [inD, e1, e2]) Hqt.u)
         go_wp2_with fail
         go_roundg (ls.length - (k + 1))
         case measure => omega
         case rel => exact ⟨k + 1, y + lm, z + 1, by omega, rfl, by go_num, rfl, rfl, by have := Hwr.u; omega, by have := Hwr.u; omega, by omega, by omega, by have h1 := Hy.u; have h2 := Hn.u; show _ ∧ _; omega, rfl⟩
        ·have Hn := hI (Hno.u (.inr (by rw [← hok]; simp [inD, e2])))
         go_wp2_with fail
         go_roundg (ls.length - (k + 1))
         case measure => omega
         case rel => exact ⟨k + 1, y, z, by omega, rfl, by go_num, rfl, rfl, by omega, by omega, by omega, by omega, by have h1 := Hy.u; have h2 := Hn.u; show _ ∧ _; omega, rfl⟩
       ·have Hn := hI (Hno.u (.inr (by rw [← hok]; simp [inD, e1])))
        go_wp2_with fail
        go_roundg (ls.length - (k + 1))
        case measure => omega
        case rel => exact ⟨k + 1, y, z, by omega, rfl, by go_num, rfl, rfl, by omega, by omega, by omega, by omega, by have h1 := Hy.u; have h2 := Hn.u; show _ ∧ _; omega, rfl⟩
     ·have hne : (sel == 33) = false := by simpa using hs
      have Hin2 : Hid (q la = wv) := by have := Hin.u; rw [hne] at this; exact this
      clear Hin
      cases wv with
      | false =>
       have Hn := hI (Hno.u (.inl Hin2.u))
       go_wp2_with fail
       go_roundg (ls.length - (k + 1))
       case measure => omega
       case rel => exact ⟨k + 1, y, z, by omega, rfl, by go_num, rfl, rfl, by omega, by omega, by omega, by omega, by have h1 := Hy.u; have h2 := Hn.u; show _ ∧ _; omega, rfl⟩
      | true =>
       by_cases e1 : a ≤ td
       ·by_cases e2 : td ≤ b
        ·have Hn := hI (Hyes.u (by rw [← hok]; simp [inD, e1, e2]) Hin2.u)
         go_wp2_with fail
         go_roundg (ls.length - (k + 1))
         case measure => omega
         case rel => exact ⟨k + 1, y + lm, z + 1, by omega, rfl, by go_num, rfl, rfl, by have := Hwr.u; omega, by have := Hwr.u; omega, by omega, by omega, by have h1 := Hy.u; have h2 := Hn.u; show _ ∧ _; omega, rfl⟩
        ·have Hn := hI (Hno.u (.inr (by rw [← hok]; simp [inD, e2])))
         go_wp2_with fail
         go_roundg (ls.length - (k + 1))
         case measure => omega
         case rel => exact ⟨k + 1, y, z, by omega, rfl, by go_num, rfl, rfl, by omega, by omega, by omega, by omega, by have h1 := Hy.u; have h2 := Hn.u; show _ ∧ _; omega, rfl⟩
       ·have Hn := hI (Hno.u (.inr (by rw [← hok]; simp [inD, e1])))
        go_wp2_with fail
        go_roundg (ls.length - (k + 1))
        case measure => omega
        case rel => exact ⟨k + 1, y, z, by omega, rfl, by go_num, rfl, rfl, by omega, by omega, by omega, by omega, by have h1 := Hy.u; have h2 := Hn.u; show _ ∧ _; omega, rfl⟩
    ·obtain rfl : k = ls.length := by omega
     have hyy : y = x + (tkO ok q ls).1 ∧ z = c + (tkO ok q ls).2 := by have := Hy.u; rw [tkO_end] at this; simpa using this
     have Ho2 : Hid (y + (tkT q a b (s.txs.drop (j + 1))).1 = (tkT q a b s.txs).1 ∧ z + (tkT q a b (s.txs.drop (j + 1))).2 = (tkT q a b s.txs).2) := by
      have h1 := Ho.u
      have h2 := Hst.u
      show _ ∧ _
      omega
     clear hyy
     go_wp2_with fail
     go_roundg (tv.length - (j + 1))
     case measure => omega
     case rel => exact ⟨j + 1, y, z, by omega, rfl, by go_num, rfl, rfl, by omega, by omega, by omega, by omega, Ho2.u, HbW.u⟩
  ·obtain rfl : j = tv.length := by omega
   have Hfin : Hid (x = (tkT q a b s.txs).1 ∧ c = (tkT q a b s.txs).2) := by
    have := Ho.u
    rw [List.drop_of_length_le (by rw [← Hjr.u, List.length_map]; exact Nat.le_refl _)] at this
    show _ ∧ _
    simpa [tkT] using this
   go_wp2_with fail
   go_ret2
   rw [Hfin.u.1, Hfin.u.2]
   exact ⟨rfl, Hb.u⟩
theorem ret_int {k : IntKind} {a b : Int} (h : a = b) : Ending.returned (.int k a) = .returned (.int k b) := by rw [h]
theorem bare_yes (s u : ByteArray) (k : Nat) (h : k < s.size) (hb : ¬ s[k].toNat = 32) (hu : L u = bare ((L s).take k)) :
  L (u ++ s.extract k (k + 1)) = bare ((L s).take (k + 1)) := by
 rw [L_append, L_one s k h, L_take_succ s k h, bare_append, bare_other hb, hu]
theorem bare_no (s u : ByteArray) (k : Nat) (h : k < s.size) (hb : s[k].toNat = 32) (hu : L u = bare ((L s).take k)) :
  L u = bare ((L s).take (k + 1)) := by
 rw [L_take_succ s k h, bare_append, bare_blank hb, hu, List.append_nil]
theorem bare_size (s u : ByteArray) (k : Nat) (hu : L u = bare ((L s).take k)) : u.size ≤ k := by
 rw [← L_length, hu]; exact Nat.le_trans (bare_le _) (List.length_take_le _ _)
theorem bare_any (s : ByteArray) (w : World) (hs : s.size ≤ 200) :
  Calls Tryz.prog 153 #[.string s] w fun e w' => ∃ t : ByteArray, e = .returned (.string t) ∧ L t = bare (L s) ∧ w' = w := by
 go_enter Tryz.func153, Tryz.ntmps153
 go_wp2
 go_loop [3, 4] (fun t i => ∃ k : Nat, ∃ u : ByteArray, k ≤ s.size ∧ i = .int .i64 k ∧ t = .string u ∧ Hid (L u = bare ((L s).take k))) (fun _ i => s.size - (intOf i).toNat)
 case atStart => exact ⟨0, _, Nat.zero_le _, rfl, rfl, hI rfl⟩
 case round =>
  obtain ⟨k, u, hk, rfl, rfl, Hu⟩ := hrel
  have hz := bare_size s u k Hu.u
  by_cases hlt : k < s.size
  ·by_cases hb : s[k].toNat = 32
   ·have hb' : ((s[k].toNat : Int) != 32) = false := by simp; omega
    go_wp2
    go_round
    case rel => exact ⟨k + 1, u, by omega, by go_num, rfl, bare_no s u k hlt hb Hu.u⟩
    case measure => simp [intOf]; omega
   ·have hb' : ((s[k].toNat : Int) != 32) = true := by simp; omega
    go_wp2
    go_round
    case rel => exact ⟨k + 1, _, by omega, by go_num, rfl, bare_yes s u k hlt hb Hu.u⟩
    case measure => simp [intOf]; omega
  ·go_wp2
   go_ret
   exact ⟨u, rfl, by rw [Hu.u, L_take_end s k (by omega)], rfl⟩
theorem val_step (s : ByteArray) (k : Nat) (h : k < s.size) (n : Int) : valGo n ((L s).drop k) = valGo (10 * n + ((s[k].toNat : Int) - 48)) ((L s).drop (k + 1)) := by
 rw [L_drop s k h]; rfl
def pow10 (k : Nat) : Int := 10 ^ k
theorem pow10_succ (k : Nat) : pow10 (k + 1) = 10 * pow10 k := by unfold pow10; rw [Int.pow_succ]; omega
theorem pow10_pos (k : Nat) : 1 ≤ pow10 k := by
 induction k with
 | zero => decide
 | succ k ih => rw [pow10_succ]; omega
theorem pow10_le (k : Nat) (h : k ≤ 17) : pow10 k ≤ 100000000000000000 := by
 have : pow10 17 = 100000000000000000 := by decide
 have key : ∀ d j : Nat, j + d = 17 → pow10 j ≤ pow10 17 := by
  intro d
  induction d with
  | zero => intro j hj; rw [show j = 17 by omega]; exact Int.le_refl _
  | succ d ih => intro j hj; have := ih (j + 1) (by omega); rw [pow10_succ] at this; have := pow10_pos j; omega
 have := key (17 - k) k (by omega)
 omega
theorem value_any (s : ByteArray) (w : World) (hs : s.size ≤ 18) (hd : ∀ k (h : k < s.size), 48 ≤ s[k].toNat ∧ s[k].toNat ≤ 57) :
  Calls Tryz.prog 154 #[.string s] w fun e w' => e = .returned (.int .i64 (val (L s))) ∧ 0 ≤ val (L s) ∧ val (L s) < pow10 s.size ∧ w' = w := by
 have Hd := hI hd
 clear hd
 go_enter Tryz.func154, Tryz.ntmps154
 go_wp2
 go_loop [3, 4] (fun t i => ∃ k : Nat, ∃ n : Int, k ≤ s.size ∧ i = .int .i64 k ∧ t = .int .i64 n ∧ 0 ≤ n ∧ n < pow10 k ∧ Hid (val (L s) = valGo n ((L s).drop k))) (fun _ i => s.size - (intOf i).toNat)
 case atStart => exact ⟨0, 0, Nat.zero_le _, rfl, rfl, by omega, by decide, hI rfl⟩
 case round =>
  obtain ⟨k, n, hk, rfl, rfl, h0, h1, Hu⟩ := hrel
  by_cases hlt : k < s.size
  ·have hdd := Hd.u k hlt
   have hp := pow10_le k (by omega)
   have hn : n ≤ 99999999999999999 := by omega
   clear hp
   go_wp2
   go_round
   case rel =>
    have hp2 := pow10_succ k
    refine ⟨k + 1, _, by omega, by go_num, rfl, by omega, by omega, ?_⟩
    show val _ = _
    rw [Hu.u, val_step s k hlt]
   case measure => simp [intOf]; omega
  ·go_wp2
   go_ret
   have hk' : k = s.size := by omega
   subst hk'
   have e : val (L s) = n := by rw [Hu.u, L_drop_end s _ (Nat.le_refl _)]; rfl
   exact ⟨ret_int e.symm, by omega, by omega, rfl⟩
theorem split_step (s : ByteArray) (c : UInt8) (acc : List (List UInt8)) (f k : Nat) (hf : f ≤ k) (h : k < s.size) (hb : ¬ s[k] = c) :
  splitGo c acc (L (s.extract f k)) ((L s).drop k) = splitGo c acc (L (s.extract f (k + 1))) ((L s).drop (k + 1)) := by
 rw [L_drop s k h]
 show (if s[k] = c then _ else _) = _
 rw [if_neg hb]
 congr 1
 rw [L_extract, L_extract, show k + 1 - f = (k - f) + 1 by omega, List.take_succ_eq_append_getElem (by rw [List.length_drop, L_length]; omega)]
 congr 2
 rw [List.getElem_drop]
 simp only [show f + (k - f) = k by omega]
 exact (L_get s k h).symm
theorem split_cut (s : ByteArray) (c : UInt8) (acc : List (List UInt8)) (f k : Nat) (h : k < s.size) (hb : s[k] = c) :
  splitGo c acc (L (s.extract f k)) ((L s).drop k) = splitGo c (acc ++ [L (s.extract f k)]) (L (s.extract (k + 1) (k + 1))) ((L s).drop (k + 1)) := by
 rw [L_drop s k h]
 show (if s[k] = c then _ else _) = _
 rw [if_pos hb, L_extract s (k + 1) (k + 1), Nat.sub_self, List.take_zero]
theorem info_string : (Tryz.prog.info? 9).map (fun i => (i.zero, i.size, i.bytes)) = some (some (.string ⟨#[]⟩), 1, 16) := by kernel_rfl
theorem split_any (s : ByteArray) (c : UInt8) (w : World) (hs : s.size ≤ 50000) :
   Calls Tryz.prog 77 #[.string s, .int .u8 (c.toNat : Int)] w fun e w' => ∃ v : Value, ∃ ss : List ByteArray, e = .returned v ∧ ss.map L = split (L s) c ∧
     w'.ownsRow w.heap.size 9 1 v ss.length (ss.map Value.string) ∧ Below w.heap.size w w' := by
 obtain ⟨i, hi, hz0, hz1, hz2⟩ := info_parts info_string
 go_enter Tryz.func77, Tryz.ntmps77
 go_wp2
 go_loopw [5, 6, 7] (fun v f i wr => ∃ k fr : Nat, ∃ ss : List ByteArray, fr ≤ k ∧ k ≤ s.size ∧ i = .int .i64 k ∧ f = .int .i64 fr ∧ ss.length ≤ k ∧
     Hid (splitGo c (ss.map L) (L (s.extract fr k)) ((L s).drop k) = split (L s) c) ∧ Hid (wr.ownsRow w.heap.size 9 1 v ss.length (ss.map Value.string)) ∧ Hid (Below w.heap.size w wr)) (fun _ _ i _ => s.size - (intOf i).toNat)
 case atStart => exact ⟨0, 0, [], by omega, by omega, rfl, rfl, by simp, hI (by rw [L_extract]; rfl), hI (World.ownsRow_nil _ _ _ _), hI (Below.refl _ _)⟩
 case round =>
   obtain ⟨k, fr, ss, hfr, hk, rfl, rfl, hss, Hs, Ho, Hb⟩ := hrel
   have hsz := Hb.u.size
   by_cases hlt : k < s.size
   · by_cases hc : s[k] = c
     · have hc' : ((s[k].toNat : Int) == (c.toNat : Int)) = true := by rw [hc]; simp
       have HC := hI hc
       clear hc
       go_wp2_with (first
         | (at_builtin; refine wpList_append_own _ rfl _ _ 115 rfl w.heap.size 9 i (.string ⟨#[]⟩) 1 16 Tryz.underlying115 hi hz0 hz1 hz2 rfl (by decide) _ _ _ rfl (Ho.u.alloc _) ⟨wr.heap.size, 0, none⟩ 1 1 [.string (s.extract fr k)] rfl rfl (cell_one_new _ _ _) (fun x hx => by simp at hx; subst hx; rfl) (by unfold maxLen; omega) (by omega) (by simp; omega) ?_; intro v' w2 hown2 hgr2 _))
       have Hown := hI hown2
       have Hgr := hI hgr2
       clear hown2 hgr2
       go_wp2
       go_roundw
       case rel =>
         refine ⟨k + 1, k + 1, ss ++ [s.extract fr k], by omega, by omega, by go_num, by go_num, by simp; omega, ?_, ?_, ?_⟩
         · show splitGo _ _ _ _ = _
           rw [← Hs.u, split_cut s c _ fr k hlt HC.u]; simp
         · show World.ownsRow _ _ _ _ _ _ _
           simpa using Hown.u
         · exact (Hb.u.alloc hsz _).grown Hgr.u (by simp; omega) (fun g hg => (Ho.u.lt g hg).1)
       case measure => simp [intOf]; omega
     · have hc' : ((s[k].toNat : Int) == (c.toNat : Int)) = false := by
         rw [beq_eq_false_iff_ne]; intro h; exact hc (UInt8.toNat_inj.1 (by omega))
       go_wp2
       go_roundw
       case rel =>
         refine ⟨k + 1, fr, ss, by omega, by omega, by go_num, rfl, by omega, ?_, Ho, Hb⟩
         show splitGo _ _ _ _ = _
         rw [← Hs.u, split_step s c _ fr k hfr hlt hc]
       case measure => simp [intOf]; omega
   · have hk' : k = s.size := by omega
     subst hk'
     clear hk hlt
     go_wp2_with (first
         | (at_builtin; refine wpList_append_own _ rfl _ _ 115 rfl w.heap.size 9 i (.string ⟨#[]⟩) 1 16 Tryz.underlying115 hi hz0 hz1 hz2 rfl (by decide) _ _ _ rfl (Ho.u.alloc _) ⟨wr.heap.size, 0, none⟩ 1 1 [.string (s.extract fr s.size)] rfl rfl (cell_one_new _ _ _) (fun x hx => by simp at hx; subst hx; rfl) (by unfold maxLen; omega) (by omega) (by simp; omega) ?_; intro v' w2 hown2 hgr2 _))
     have Hown := hI hown2
     have Hgr := hI hgr2
     clear hown2 hgr2
     go_wp2
     go_ret
     refine ⟨v', ss ++ [s.extract fr s.size], rfl, ?_, ?_, ?_⟩
     · rw [← Hs.u, L_drop_end s _ (Nat.le_refl _)]; simp [splitGo]
     · simpa using Hown.u
     · exact (Hb.u.alloc hsz _).grown Hgr.u (by simp; omega) (fun g hg => (Ho.u.lt g hg).1)
def prv (s : ByteArray) (i : Nat) : Int := if h : 0 < i ∧ i - 1 < s.size then ((s[i - 1]'h.2).toNat : Int) else -1
theorem prv_zero (s : ByteArray) : prv s 0 = -1 := by simp [prv]
theorem prv_succ (s : ByteArray) (i : Nat) (h : i < s.size) : prv s (i + 1) = (s[i].toNat : Int) := by simp [prv, h]
theorem binary_any (s : ByteArray) (i : Nat) (w : World) (hs : s.size ≤ 200) (hi : i < s.size) :
  Calls Tryz.prog 212 #[.string s, .int .i64 (i : Int)] w fun e w' => e = .returned (.bool (binB (prv s i) (s[i].toNat : Int))) ∧ w' = w := by
 by_cases ho : opB (s[i].toNat : Int) = true
 ·by_cases h0 : i = 0
  ·subst h0
   have Hp := hI (prv_zero s)
   go_enter Tryz.func212, Tryz.ntmps212
   go_wp2_with (go_at_call 161; refine (opr _ _).mono ?_; rintro e w' ⟨rfl, rfl⟩)
   go_ret
   exact ⟨by rw [Hp.u]; simp [binB, digB], rfl⟩
  ·obtain ⟨j, rfl⟩ : ∃ j, i = j + 1 := ⟨i - 1, by omega⟩
   have Hp := hI (prv_succ s j (by omega))
   have h0' : (((j + 1 : Nat) : Int) == 0) = false := by rw [beq_eq_false_iff_ne]; omega
   clear h0
   by_cases hd : digB (s[j].toNat : Int) = true
   all_goals
    go_enter Tryz.func212, Tryz.ntmps212
    go_wp2_with (first
     | (go_at_call 161; refine (opr _ _).mono ?_; rintro e w' ⟨rfl, rfl⟩)
     | (go_at_call 158; refine (dgt _ _).mono ?_; rintro e w' ⟨rfl, rfl⟩))
    go_ret
    exact ⟨by rw [Hp.u]; simp [binB, hd, ho], rfl⟩
 ·go_enter Tryz.func212, Tryz.ntmps212
  go_wp2_with (go_at_call 161; refine (opr _ _).mono ?_; rintro e w' ⟨rfl, rfl⟩)
  go_ret
  exact ⟨by simp [binB, ho], rfl⟩
theorem fin_step (s : ByteArray) (a b : Int) (j : Nat) (h : j < s.size) (k at_ : Int) :
  finGo a b (prv s j) k at_ j ((L s).drop j) = finGo a b (prv s (j + 1)) (dep k (s[j].toNat : Int)) (hit a b (prv s j) (dep k (s[j].toNat : Int)) at_ j (s[j].toNat : Int)) ((j + 1 : Nat) : Int) ((L s).drop (j + 1)) := by
 rw [L_drop s j h, prv_succ s j h]; rfl
theorem bin_not (p c : Int) (h : c = 40 ∨ c = 41) : binB p c = false := by rcases h with rfl | rfl <;> simp [binB, opB]
theorem hit_not (a b p k at_ i c : Int) (h : binB p c = false) : hit a b p k at_ i c = at_ := by simp [hit, h]
theorem hit_deep (a b p k at_ i c : Int) (h : (k == 0) = false) : hit a b p k at_ i c = at_ := by simp [hit, h]
theorem hit_other (a b p k at_ i c : Int) (h : (c == a) = false) (h2 : (c == b) = false) : hit a b p k at_ i c = at_ := by simp [hit, h, h2]
theorem hit_yes (a b p k at_ i c : Int) (h : binB p c = true) (h1 : (k == 0) = true) (h2 : (c == a) = true ∨ (c == b) = true) : hit a b p k at_ i c = i := by
 simp only [hit, h, h1]; rcases h2 with h2 | h2 <;> simp [h2]
theorem dep_open (k c : Int) (h : (c == 40) = true) : dep k c = k + 1 := by simp only [dep, h]; rfl
theorem dep_shut (k c : Int) (h0 : (c == 40) = false) (h : (c == 41) = true) : dep k c = k - 1 := by simp only [dep, h0, h]; rfl
theorem dep_else (k c : Int) (h0 : (c == 40) = false) (h : (c == 41) = false) : dep k c = k := by simp only [dep, h0, h]; rfl
theorem final_any (s : ByteArray) (a b : Int) (w : World) (hs : s.size ≤ 200) :
  Calls Tryz.prog 193 #[.string s, .int .u8 a, .int .u8 b] w fun e w' => e = .returned (.int .i64 (fin (L s) a b)) ∧ w' = w := by
 go_enter Tryz.func193, Tryz.ntmps193
 go_wp2
 go_loop [7, 8, 9] (fun o t i => ∃ j : Nat, ∃ k at_ : Int, j ≤ s.size ∧ i = .int .i64 j ∧ o = .int .i64 k ∧ t = .int .i64 at_ ∧ -j ≤ k ∧ k ≤ j ∧ Hid (finGo a b (prv s j) k at_ j ((L s).drop j) = fin (L s) a b)) (fun _ _ i => s.size - (intOf i).toNat)
 case atStart => exact ⟨0, 0, -1, Nat.zero_le _, rfl, rfl, rfl, by omega, by omega, hI (by rw [prv_zero]; rfl)⟩
 case round =>
  obtain ⟨j, k, at_, hj, rfl, rfl, rfl, hk1, hk2, Hf⟩ := hrel
  by_cases hlt : j < s.size
  ·have Hst := hI (fin_step s a b j hlt k at_)
   obtain ⟨bn, hbn⟩ : ∃ bn, binB (prv s j) (s[j].toNat : Int) = bn := ⟨_, rfl⟩
   have Hbn := hI hbn
   clear hbn
   by_cases h40 : ((s[j].toNat : Int) == 40) = true
   ·have hb : bn = false := by rw [← Hbn.u]; exact bin_not _ _ (Or.inl (by simpa using h40))
    subst hb
    go_wp2_with (go_at_call 212; refine (binary_any s j _ hs hlt).mono ?_; rintro e w' ⟨rfl, rfl⟩; rw [Hbn.u])
    go_round
    case rel => exact ⟨j + 1, _, _, by omega, by go_num, rfl, rfl, by omega, by omega, by show _ = _; rw [← Hf.u, Hst.u, dep_open _ _ h40, hit_not _ _ _ _ _ _ _ Hbn.u]⟩
    case measure => simp [intOf]; omega
   ·have h40' : ((s[j].toNat : Int) == 40) = false := by simpa using h40
    by_cases h41 : ((s[j].toNat : Int) == 41) = true
    ·have hb : bn = false := by rw [← Hbn.u]; exact bin_not _ _ (Or.inr (by simpa using h41))
     subst hb
     go_wp2_with (go_at_call 212; refine (binary_any s j _ hs hlt).mono ?_; rintro e w' ⟨rfl, rfl⟩; rw [Hbn.u])
     go_round
     case rel => exact ⟨j + 1, _, _, by omega, by go_num, rfl, rfl, by omega, by omega, by show _ = _; rw [← Hf.u, Hst.u, dep_shut _ _ h40' h41, hit_not _ _ _ _ _ _ _ Hbn.u]⟩
     case measure => simp [intOf]; omega
    ·have h41' : ((s[j].toNat : Int) == 41) = false := by simpa using h41
     have Hd := hI (dep_else k (s[j].toNat : Int) h40' h41')
     clear h40 h41
     cases bn with
     | false =>
      go_wp2_with (go_at_call 212; refine (binary_any s j _ hs hlt).mono ?_; rintro e w' ⟨rfl, rfl⟩; rw [Hbn.u])
      go_round
      case rel => exact ⟨j + 1, _, _, by omega, by go_num, rfl, rfl, by omega, by omega, by show _ = _; rw [← Hf.u, Hst.u, Hd.u, hit_not _ _ _ _ _ _ _ Hbn.u]⟩
      case measure => simp [intOf]; omega
     | true =>
      by_cases hk0 : (k == 0) = true
      ·by_cases ha : ((s[j].toNat : Int) == a) = true
       ·go_wp2_with (go_at_call 212; refine (binary_any s j _ hs hlt).mono ?_; rintro e w' ⟨rfl, rfl⟩; rw [Hbn.u])
        go_round
        case rel => exact ⟨j + 1, _, _, by omega, by go_num, rfl, rfl, by omega, by omega, by show _ = _; rw [← Hf.u, Hst.u, Hd.u, hit_yes _ _ _ _ _ _ _ Hbn.u hk0 (Or.inl ha)]⟩
        case measure => simp [intOf]; omega
       ·have ha' : ((s[j].toNat : Int) == a) = false := by simpa using ha
        clear ha
        by_cases hb : ((s[j].toNat : Int) == b) = true
        ·go_wp2_with (go_at_call 212; refine (binary_any s j _ hs hlt).mono ?_; rintro e w' ⟨rfl, rfl⟩; rw [Hbn.u])
         go_round
         case rel => exact ⟨j + 1, _, _, by omega, by go_num, rfl, rfl, by omega, by omega, by show _ = _; rw [← Hf.u, Hst.u, Hd.u, hit_yes _ _ _ _ _ _ _ Hbn.u hk0 (Or.inr hb)]⟩
         case measure => simp [intOf]; omega
        ·have hb' : ((s[j].toNat : Int) == b) = false := by simpa using hb
         clear hb
         go_wp2_with (go_at_call 212; refine (binary_any s j _ hs hlt).mono ?_; rintro e w' ⟨rfl, rfl⟩; rw [Hbn.u])
         go_round
         case rel => exact ⟨j + 1, _, _, by omega, by go_num, rfl, rfl, by omega, by omega, by show _ = _; rw [← Hf.u, Hst.u, Hd.u, hit_other _ _ _ _ _ _ _ ha' hb']⟩
         case measure => simp [intOf]; omega
      ·have hk0' : (k == 0) = false := by simpa using hk0
       clear hk0
       go_wp2_with (go_at_call 212; refine (binary_any s j _ hs hlt).mono ?_; rintro e w' ⟨rfl, rfl⟩; rw [Hbn.u])
       go_round
       case rel => exact ⟨j + 1, _, _, by omega, by go_num, rfl, rfl, by omega, by omega, by show _ = _; rw [← Hf.u, Hst.u, Hd.u, hit_deep _ _ _ _ _ _ _ hk0']⟩
       case measure => simp [intOf]; omega
  ·go_wp2
   go_ret
   exact ⟨ret_int (by rw [← Hf.u, L_drop_end s _ (by omega)]; rfl), rfl⟩
def CutV (s : ByteArray) (o : Int) (l r : ByteArray) : Prop := (cut (L s)).1 = o ∧ L l = (cut (L s)).2.1 ∧ L r = (cut (L s)).2.2
theorem L_getD (s : ByteArray) (k : Nat) (h : k < s.size) : (L s).getD k 0 = s[k] := by
 rw [List.getD_eq_getElem?_getD, L_get? s k h]; rfl
theorem L_getD0 (s : ByteArray) (h : 0 < s.size) : (L s).getD 0 0 = s[0] := L_getD s 0 h
theorem cutV_at (s : ByteArray) (i : Nat) (h0 : 0 < i) (h : i < s.size) (hc : cutAt (L s) = (i : Int)) : CutV s (s[i].toNat : Int) (s.extract 0 i) (s.extract (i + 1) s.size) := by
 unfold CutV cut
 rw [if_pos (by rw [hc]; omega)]
 refine ⟨?_, ?_, ?_⟩
 ·simp only [hc, Int.toNat_natCast]; rw [L_getD s i h]
 ·simp only [hc, Int.toNat_natCast]; rw [L_extract]; simp
 ·simp only [hc, Int.toNat_natCast]; rw [L_extract]; exact List.take_of_length_le (by rw [List.length_drop, L_length]; omega)
theorem cutV_neg (s : ByteArray) (hn : cutAt (L s) ≤ 0) (h : 1 < s.size) (hc : (s[0].toNat : Int) = 45) : CutV s 126 ⟨#[]⟩ (s.extract 1 s.size) := by
 unfold CutV cut
 rw [if_neg (Int.not_lt.2 hn), if_pos ⟨by rw [L_length]; exact h, by rw [L_getD0 s (by omega)]; exact hc⟩]
 refine ⟨rfl, rfl, ?_⟩
 rw [L_extract]; exact List.take_of_length_le (by rw [List.length_drop, L_length]; omega)
theorem cutV_par (s : ByteArray) (hn : cutAt (L s) ≤ 0) (h : 2 < s.size) (hc : (s[0].toNat : Int) = 40) : CutV s 40 ⟨#[]⟩ (s.extract 1 (s.size - 1)) := by
 unfold CutV cut
 rw [if_neg (Int.not_lt.2 hn), if_neg (by rintro ⟨_, h2⟩; rw [L_getD0 s (by omega)] at h2; omega), if_pos ⟨by rw [L_length]; exact h, by rw [L_getD0 s (by omega)]; exact hc⟩]
 refine ⟨rfl, rfl, ?_⟩
 rw [L_extract, L_length, show s.size - 1 - 1 = s.size - 2 by omega]
theorem cutV_not (s : ByteArray) (hn : cutAt (L s) ≤ 0) (h1 : ¬ (1 < (L s).length ∧ (((L s).getD 0 0).toNat : Int) = 45)) (h2 : ¬ (2 < (L s).length ∧ (((L s).getD 0 0).toNat : Int) = 40)) : CutV s 0 ⟨#[]⟩ s := by
 unfold CutV cut
 rw [if_neg (Int.not_lt.2 hn), if_neg h1, if_neg h2]
 exact ⟨rfl, rfl, rfl⟩
theorem cutV_not' (s : ByteArray) (hn : cutAt (L s) ≤ 0) (h1 : ¬ (1 < s.size ∧ ∃ h : 0 < s.size, (s[0].toNat : Int) = 45)) (h2 : ¬ (2 < s.size ∧ ∃ h : 0 < s.size, (s[0].toNat : Int) = 40)) : CutV s 0 ⟨#[]⟩ s := by
 refine cutV_not s hn ?_ ?_
 ·rintro ⟨ha, hb⟩
  rw [L_length] at ha
  rw [L_getD0 s (by omega)] at hb
  exact h1 ⟨ha, by omega, hb⟩
 ·rintro ⟨ha, hb⟩
  rw [L_length] at ha
  rw [L_getD0 s (by omega)] at hb
  exact h2 ⟨ha, by omega, hb⟩
theorem cut_any (s : ByteArray) (w : World) (hs : s.size ≤ 200) :
  Calls Tryz.prog 156 #[.string s] w fun e w' => ∃ o : Int, ∃ l r : ByteArray, e = .returned (.tuple #[.int .u8 o, .string l, .string r]) ∧ CutV s o l r ∧ ∃ n, w' = w.drewN n := by
 have hlt := cutAt_lt (L s)
 rw [L_length] at hlt
 obtain ⟨f1, hf1⟩ : ∃ f1, fin (L s) 43 45 = f1 := ⟨_, rfl⟩
 obtain ⟨f2, hf2⟩ : ∃ f2, fin (L s) 42 47 = f2 := ⟨_, rfl⟩
 obtain ⟨i, hi⟩ : ∃ i, cutAt (L s) = i := ⟨_, rfl⟩
 have hi' := hi
 unfold cutAt at hi'
 rw [hf1, hf2] at hi'
 rw [hi] at hlt
 have Hf1 := hI hf1
 have Hf2 := hI hf2
 have Hi := hI hi
 clear hf1 hf2 hi
 by_cases hneg : f1 < 0
 ·rw [if_pos hneg] at hi'
  subst hi'
  by_cases hpos : 0 < f2
  ·obtain ⟨n, rfl⟩ := Int.eq_ofNat_of_zero_le (show 0 ≤ f2 by omega)
   have hn : n < s.size := by omega
   have hn1 : n + 1 ≤ s.size := by omega
   go_enter Tryz.func156, Tryz.ntmps156
   go_wp2_with fail
   refine (final_any s 43 45 _ hs).mono ?_
   rintro e w' ⟨rfl, rfl⟩
   rw [Hf1.u]
   go_wp2_with fail
   refine (final_any s 42 47 _ hs).mono ?_
   rintro e w' ⟨rfl, rfl⟩
   rw [Hf2.u]
   go_wp2_with fail
   go_quiet (fail)
   go_wp2
   go_ret3
   exact ⟨_, _, _, rfl, cutV_at s n (by omega) hn Hi.u, _, rfl⟩
  have Hn : Hid (cutAt (L s) ≤ 0) := by show _ ≤ _; rw [Hi.u]; omega
  by_cases h1 : 1 < s.size
  ·have h0 : 0 < s.size := by omega
   by_cases h45 : ((s[0].toNat : Int) == 45) = true
   ·have H45 : Hid ((s[0].toNat : Int) = 45) := by show _ = _; simpa using h45
    go_enter Tryz.func156, Tryz.ntmps156
    go_wp2_with fail
    refine (final_any s 43 45 _ hs).mono ?_
    rintro e w' ⟨rfl, rfl⟩
    rw [Hf1.u]
    go_wp2_with fail
    refine (final_any s 42 47 _ hs).mono ?_
    rintro e w' ⟨rfl, rfl⟩
    rw [Hf2.u]
    go_wp2_with fail
    go_quiet (fail)
    go_wp2
    go_ret3
    exact ⟨_, _, _, rfl, cutV_neg s Hn.u h1 H45.u, _, rfl⟩
   have h45' : ((s[0].toNat : Int) == 45) = false := by simpa using h45
   have H45 : Hid (¬ (s[0].toNat : Int) = 45) := by show ¬ _; simpa using h45
   clear h45
   by_cases h2 : 2 < s.size
   ·by_cases h40 : ((s[0].toNat : Int) == 40) = true
    ·have H40 : Hid ((s[0].toNat : Int) = 40) := by show _ = _; simpa using h40
     have ez : ((s.size : Int) - 1) = ((s.size - 1 : Nat) : Int) := by omega
     have Hez := hI ez
     clear ez
     go_enter Tryz.func156, Tryz.ntmps156
     go_wp2_with fail
     refine (final_any s 43 45 _ hs).mono ?_
     rintro e w' ⟨rfl, rfl⟩
     rw [Hf1.u]
     go_wp2_with fail
     refine (final_any s 42 47 _ hs).mono ?_
     rintro e w' ⟨rfl, rfl⟩
     rw [Hf2.u]
     go_wp2_with fail
     go_quiet (fail)
     go_wp2
     go_ret3
     exact ⟨_, _, _, rfl, cutV_par s Hn.u h2 H40.u, _, rfl⟩
    ·have h40' : ((s[0].toNat : Int) == 40) = false := by simpa using h40
     have H40 : Hid (¬ (s[0].toNat : Int) = 40) := by show ¬ _; simpa using h40
     clear h40
     go_enter Tryz.func156, Tryz.ntmps156
     go_wp2_with fail
     refine (final_any s 43 45 _ hs).mono ?_
     rintro e w' ⟨rfl, rfl⟩
     rw [Hf1.u]
     go_wp2_with fail
     refine (final_any s 42 47 _ hs).mono ?_
     rintro e w' ⟨rfl, rfl⟩
     rw [Hf2.u]
     go_wp2_with fail
     go_ret3
     exact ⟨_, _, _, rfl, cutV_not' s Hn.u (fun ⟨_, _, h⟩ => H45.u h) (fun ⟨_, _, h⟩ => H40.u h), 0, rfl⟩
   ·
    go_enter Tryz.func156, Tryz.ntmps156
    go_wp2_with fail
    refine (final_any s 43 45 _ hs).mono ?_
    rintro e w' ⟨rfl, rfl⟩
    rw [Hf1.u]
    go_wp2_with fail
    refine (final_any s 42 47 _ hs).mono ?_
    rintro e w' ⟨rfl, rfl⟩
    rw [Hf2.u]
    go_wp2_with fail
    go_ret3
    exact ⟨_, _, _, rfl, cutV_not' s Hn.u (fun ⟨_, _, h⟩ => H45.u h) (fun ⟨h, _, _⟩ => by omega), 0, rfl⟩
  ·
   go_enter Tryz.func156, Tryz.ntmps156
   go_wp2_with fail
   refine (final_any s 43 45 _ hs).mono ?_
   rintro e w' ⟨rfl, rfl⟩
   rw [Hf1.u]
   go_wp2_with fail
   refine (final_any s 42 47 _ hs).mono ?_
   rintro e w' ⟨rfl, rfl⟩
   rw [Hf2.u]
   go_wp2_with fail
   go_ret3
   exact ⟨_, _, _, rfl, cutV_not' s Hn.u (fun ⟨h, _, _⟩ => by omega) (fun ⟨h, _, _⟩ => by omega), 0, rfl⟩
 ·rw [if_neg hneg] at hi'
  subst hi'
  by_cases hpos : 0 < f1
  ·obtain ⟨n, rfl⟩ := Int.eq_ofNat_of_zero_le (show 0 ≤ f1 by omega)
   have hn : n < s.size := by omega
   have hn1 : n + 1 ≤ s.size := by omega
   go_enter Tryz.func156, Tryz.ntmps156
   go_wp2_with fail
   refine (final_any s 43 45 _ hs).mono ?_
   rintro e w' ⟨rfl, rfl⟩
   rw [Hf1.u]
   go_wp2_with fail
   go_quiet (fail)
   go_wp2
   go_ret3
   exact ⟨_, _, _, rfl, cutV_at s n (by omega) hn Hi.u, _, rfl⟩
  have Hn : Hid (cutAt (L s) ≤ 0) := by show _ ≤ _; rw [Hi.u]; omega
  by_cases h1 : 1 < s.size
  ·have h0 : 0 < s.size := by omega
   by_cases h45 : ((s[0].toNat : Int) == 45) = true
   ·have H45 : Hid ((s[0].toNat : Int) = 45) := by show _ = _; simpa using h45
    go_enter Tryz.func156, Tryz.ntmps156
    go_wp2_with fail
    refine (final_any s 43 45 _ hs).mono ?_
    rintro e w' ⟨rfl, rfl⟩
    rw [Hf1.u]
    go_wp2_with fail
    go_quiet (fail)
    go_wp2
    go_ret3
    exact ⟨_, _, _, rfl, cutV_neg s Hn.u h1 H45.u, _, rfl⟩
   have h45' : ((s[0].toNat : Int) == 45) = false := by simpa using h45
   have H45 : Hid (¬ (s[0].toNat : Int) = 45) := by show ¬ _; simpa using h45
   clear h45
   by_cases h2 : 2 < s.size
   ·by_cases h40 : ((s[0].toNat : Int) == 40) = true
    ·have H40 : Hid ((s[0].toNat : Int) = 40) := by show _ = _; simpa using h40
     have ez : ((s.size : Int) - 1) = ((s.size - 1 : Nat) : Int) := by omega
     have Hez := hI ez
     clear ez
     go_enter Tryz.func156, Tryz.ntmps156
     go_wp2_with fail
     refine (final_any s 43 45 _ hs).mono ?_
     rintro e w' ⟨rfl, rfl⟩
     rw [Hf1.u]
     go_wp2_with fail
     go_quiet (fail)
     go_wp2
     go_ret3
     exact ⟨_, _, _, rfl, cutV_par s Hn.u h2 H40.u, _, rfl⟩
    ·have h40' : ((s[0].toNat : Int) == 40) = false := by simpa using h40
     have H40 : Hid (¬ (s[0].toNat : Int) = 40) := by show ¬ _; simpa using h40
     clear h40
     go_enter Tryz.func156, Tryz.ntmps156
     go_wp2_with fail
     refine (final_any s 43 45 _ hs).mono ?_
     rintro e w' ⟨rfl, rfl⟩
     rw [Hf1.u]
     go_wp2_with fail
     go_ret3
     exact ⟨_, _, _, rfl, cutV_not' s Hn.u (fun ⟨_, _, h⟩ => H45.u h) (fun ⟨_, _, h⟩ => H40.u h), 0, rfl⟩
   ·
    go_enter Tryz.func156, Tryz.ntmps156
    go_wp2_with fail
    refine (final_any s 43 45 _ hs).mono ?_
    rintro e w' ⟨rfl, rfl⟩
    rw [Hf1.u]
    go_wp2_with fail
    go_ret3
    exact ⟨_, _, _, rfl, cutV_not' s Hn.u (fun ⟨_, _, h⟩ => H45.u h) (fun ⟨h, _, _⟩ => by omega), 0, rfl⟩
  ·
   go_enter Tryz.func156, Tryz.ntmps156
   go_wp2_with fail
   refine (final_any s 43 45 _ hs).mono ?_
   rintro e w' ⟨rfl, rfl⟩
   rw [Hf1.u]
   go_wp2_with fail
   go_ret3
   exact ⟨_, _, _, rfl, cutV_not' s Hn.u (fun ⟨h, _, _⟩ => by omega) (fun ⟨h, _, _⟩ => by omega), 0, rfl⟩
end Go.Proofs.YtdchbenfccofpaaGreatDoor
