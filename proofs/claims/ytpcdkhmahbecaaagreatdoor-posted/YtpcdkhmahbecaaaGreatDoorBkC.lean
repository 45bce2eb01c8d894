/- Walks of the books: Open. -/
import Derived.Test.YtpcdkhmahbecaaaGreatDoorBkB
namespace Go.Proofs.YtpcdkhmahbecaaaGreatDoor
open Go.RowKit Db

theorem new1 (w : World) (n : Nat) (hn : n = w.heap.size) (x : Value) (t : TypeId) : ∀ j u, [x][j]? = some u → (w.alloc (.cells #[x] t)).cell? ((⟨n, 0, none⟩ : Addr).add j) = some u := by
  subst hn; intro j u h; rw [Addr.add_lit]; have := (Blk.new w #[x] t).cell j; simp only [Nat.zero_add]; rw [this]; simpa using h
theorem new2 (w : World) (n : Nat) (hn : n = w.heap.size) (x y : Value) (t : TypeId) : ∀ j u, [x, y][j]? = some u → (w.alloc (.cells #[x, y] t)).cell? ((⟨n, 0, none⟩ : Addr).add j) = some u := by
  subst hn; intro j u h; rw [Addr.add_lit]; have := (Blk.new w #[x, y] t).cell j; simp only [Nat.zero_add]; rw [this]; simpa using h
theorem new3 (w : World) (n : Nat) (hn : n = w.heap.size) (x y z : Value) (t : TypeId) : ∀ j u, [x, y, z][j]? = some u → (w.alloc (.cells #[x, y, z] t)).cell? ((⟨n, 0, none⟩ : Addr).add j) = some u := by
  subst hn; intro j u h; rw [Addr.add_lit]; have := (Blk.new w #[x, y, z] t).cell j; simp only [Nat.zero_add]; rw [this]; simpa using h
theorem info_account : (Tryz.prog.info? 96).map (fun i => (i.zero, i.size, i.bytes)) = some (some (.agg #[.int .i64 0, .bool false]), 2, 16) := by kernel_rfl
theorem infoInt : (Tryz.prog.info? 3).map (fun i => (i.zero, i.size, i.bytes)) = some (some (.int .i64 0), 1, 8) := by kernel_rfl
theorem infoBool : (Tryz.prog.info? 4).map (fun i => (i.zero, i.size, i.bytes)) = some (some (.bool false), 1, 1) := by kernel_rfl

theorem blk_own_ne {w : World} {n base size m : Nat} {cs : Array Value} {T e : TypeId} {v : Value} {xs : List Value} (hb : Blk w n cs T) (ho : w.ownsRow base e size v m xs) (hne : T ≠ e) : some n ≠ v.ownBlock := by
  intro h
  obtain ⟨_, ds, fz, hg⟩ := ownsRow_tg ho n h.symm
  unfold Blk at hb
  rw [hb] at hg
  simp at hg
  exact hne hg.2.1
theorem own_apart' {w : World} {B B' : Nat} {e e' : TypeId} {s s' : Nat} {v v' : Value} {n n' : Nat} {xs xs' : List Value} (h : w.ownsRow B e s v n xs) (h' : w.ownsRow B' e' s' v' n' xs') (hne : e ≠ e') : v.ownBlock = none ∨ v.ownBlock ≠ v'.ownBlock := by
  rcases h.2 with ⟨rfl, _⟩ | ⟨g, cap, cur, rfl, _, hg, _⟩
  · exact .inl rfl
  · refine .inr (fun eq => ?_)
    obtain ⟨_, ds, fz, hg'⟩ := ownsRow_tg h' g (by rw [← eq]; rfl)
    rw [hg] at hg'
    simp at hg'
    exact hne hg'.2.1
theorem opn_none {s : Bk} {a : Int} (h : ther s a = false) : opn s a = (0, 7, s) := by unfold opn; rw [if_pos h]
theorem opn_shut {s : Bk} {a : Int} (h : ther s a = true) (hc : clsd s a = true) : opn s a = (0, 8, s) := by unfold opn; rw [if_neg (by simp [h]), if_pos hc]
theorem opn_full {s : Bk} {a : Int} (h : ther s a = true) (hc : clsd s a = false) (hf : 16 ≤ s.acs.length) : opn s a = (0, 11, s) := by unfold opn; rw [if_neg (by simp [h]), if_neg (by simp [hc]), if_pos hf]
theorem opn_ok {s : Bk} {a : Int} (h : ther s a = true) (hc : clsd s a = false) (hf : ¬ 16 ≤ s.acs.length) : opn s a = ((s.acs.length : Int), 0, { s with acs := s.acs ++ [(a, false)] }) := by unfold opn; rw [if_neg (by simp [h]), if_neg (by simp [hc]), if_neg hf]
theorem ther_nat {s : Bk} {k : Nat} (h : k < s.acs.length) : ther s k = true := by unfold ther; simp; omega
theorem ther_no {s : Bk} {a : Int} (h : a < 0 ∨ (s.acs.length : Int) ≤ a) : ther s a = false := by unfold ther; simp; omega
theorem clsd_at {s : Bk} {k : Nat} {c : Ac} (h : s.acs[k]? = some c) : clsd s k = c.2 := by unfold clsd; simp [h]
theorem acs_get {s : Bk} {k : Nat} (h : k < s.acs.length) : ∃ c, s.acs[k]? = some c := ⟨s.acs[k], List.getElem?_eq_getElem h⟩

theorem tg_alloc {w : World} {k : Nat} {T : TypeId} (h : Tg w k T) (o : Obj) : Tg (w.alloc o) k T := by
  obtain ⟨cs, fz, hg⟩ := h
  exact ⟨cs, fz, by rw [Below.heap_alloc _ _ _ (Array.getElem?_eq_some_iff.1 hg).1]; exact hg⟩
/-- One account more. -/
theorem LedAt.more {w w5 : World} {B p : Nat} {va va' vt : Value} {tv : List (Tn × Value)} {s s' : Bk} (h : LedAt w B p va vt tv s) (o : Obj) (hgr : (w.alloc o).grownBy w5 va.ownBlock) (hblk : Blk w5 p #[va, vt] 65)
    (hown : w5.ownsRow B 96 2 va' s'.acs.length (cellsA s'.acs)) (hs : s'.txs = s.txs) (hg : BkGood s') :
    LedAt (w5.setCell ⟨p, 0, none⟩ va') B p va' vt tv s' ∧ FrT B tP w (w5.setCell ⟨p, 0, none⟩ va') := by
  have f1 : FrT B [96] w w5 := ((FrT.refl _ _ w).alloc o).grown hgr (T := 96) (by simp) (fun k hk => ⟨(ownsRow_tg h.acs k hk).1, tg_alloc (ownsRow_tg h.acs k hk).2 o⟩)
  have f2 : FrT B [65] w5 (w5.setCell ⟨p, 0, none⟩ va') := (FrT.refl _ _ w5).setCell (T := 65) (by simp) hblk.tg h.lo _
  refine ⟨⟨?_, h.lo, ownsRow_frT hown f2 (by decide), (h.txs.frT f1 (by decide) (by decide)).frT f2 (by decide) (by decide), by rw [hs]; exact h.jr, hg⟩, ?_⟩
  · have := hblk.set 0 va'
    simpa using this
  · exact (f1.mono (by simp [tP])).trans (f2.mono (by simp [tP]))

set_option maxRecDepth 100000 in
set_option maxHeartbeats 2000000 in
theorem ledOpen_any (B p : Nat) (s : Bk) (a : Int) (w : World) (h : Led w B p s) :
    Calls Tryz.prog 97 #[.pointer (some ⟨p, 0, none⟩), .int .i64 a] w fun e w' => e = .returned (.tuple #[.int .i64 (opn s a).1, .int .i64 (opn s a).2.1]) ∧ Led w' B p (opn s a).2.2 ∧ FrT B tP w w' := by
  obtain ⟨va, vt, tv, h⟩ := h
  obtain ⟨ii, hi, hz0, hz1, hz2⟩ := info_parts info_account
  obtain ⟨g, cap, rfl, hg, hg'⟩ := ownsRow_some h.acs h.good.one
  have c0 := h.blk.cell 0
  have z0 := h.blk.frozen 0
  have hlp := h.blk.lt
  simp only [List.getElem?_toArray, List.getElem?_cons_zero] at c0
  have hfew := h.good.few
  have H := hide h
  by_cases hin : a < 0 ∨ (s.acs.length : Int) ≤ a
  · have hr := opn_none (ther_no hin)
    rw [hr]
    clear h hr
    by_cases hneg : a < 0
    · go_enter Tryz.func97, Tryz.ntmps97
      go_wp2_with fail
      go_ret2
      exact ⟨rfl, ⟨_, _, _, unhide H⟩, FrT.refl _ _ _⟩
    · have hge : (s.acs.length : Int) ≤ a := by omega
      go_enter Tryz.func97, Tryz.ntmps97
      go_wp2_with fail
      go_ret2
      exact ⟨rfl, ⟨_, _, _, unhide H⟩, FrT.refl _ _ _⟩
  · obtain ⟨k, rfl⟩ : ∃ k : Nat, a = k := ⟨a.toNat, by omega⟩
    have hk : k < s.acs.length := by omega
    obtain ⟨c, hc⟩ := acs_get hk
    have d := ownsRow_cell h.acs (j := k * 2 + 1) (two_get (fun a : Ac => Value.int .i64 a.1) (fun a => .bool a.2) s.acs k c hc).2
    have ht := ther_nat hk
    have hcl := clsd_at hc
    clear h hin
    cases hcc : c.2 with
    | true =>
      rw [hcc] at d hcl
      rw [opn_shut ht hcl]
      clear ht hcl hc
      go_enter Tryz.func97, Tryz.ntmps97
      go_wp2_with fail
      go_ret2
      exact ⟨rfl, ⟨_, _, _, unhide H⟩, FrT.refl _ _ _⟩
    | false =>
      rw [hcc] at d hcl
      by_cases hf : 16 ≤ s.acs.length
      · rw [opn_full ht hcl hf]
        clear ht hcl hc
        go_enter Tryz.func97, Tryz.ntmps97
        go_wp2_with fail
        go_ret2
        exact ⟨rfl, ⟨_, _, _, unhide H⟩, FrT.refl _ _ _⟩
      · have hok := opn_ok ht hcl hf
        have Hgood : Hid (BkGood { s with acs := s.acs ++ [((k : Int), false)] }) := by
          have := BkGood.opn (unhide H).good (k : Int)
          rw [hok] at this
          exact this
        rw [hok]
        clear ht hcl hc hok
        go_enter Tryz.func97, Tryz.ntmps97
        go_wp2_with (first
          | (at_builtin; refine wpList_append_own _ rfl (.tmp 33) (.tmp 36) 60 rfl B 96 ii (.agg #[.int .i64 0, .bool false]) 2 16 Tryz.underlying60 hi hz0 hz1 hz2 rfl (by decide) (.slice (some ⟨g, 0, none⟩) s.acs.length cap) s.acs.length _ rfl ((unhide H).acs.alloc _) ⟨w.heap.size, 0, none⟩ 1 1 [.int .i64 (k : Int), .bool false] rfl rfl (new2 _ _ (by simp) _ _ _) (fun x hx => by simp at hx; rcases hx with rfl | rfl <;> rfl) (by unfold maxLen; omega) (by omega) (by simp; omega) ?_; intro vq' w5 hown5 hgr5 _; obtain ⟨gf, cf, rfl, hgf, hgf'⟩ := ownsRow_some hown5 (Nat.succ_pos _); have hblk5 := ((unhide H).blk.alloc _).grown hgr5 (blk_own_ne (unhide H).blk (unhide H).acs (by decide)); have c5 := hblk5.cell 0; have z5 := hblk5.frozen 0; have l5 := hblk5.lt; simp only [List.getElem?_toArray, List.getElem?_cons_zero] at c5; have Hblk5 := hide hblk5; have Hown5 := hide hown5; have Hgr5 := hide hgr5; clear hblk5 hown5 hgr5))
        go_ret2
        have hfin := (unhide H).more _ (unhide Hgr5) (unhide Hblk5) (s' := { s with acs := s.acs ++ [((k : Int), false)] }) (by simpa [cellsA] using unhide Hown5) rfl (unhide Hgood)
        exact ⟨rfl, ⟨_, _, _, hfin.1⟩, hfin.2⟩

set_option maxHeartbeats 1000000 in
theorem dayOpen_any (B p : Nat) (s : Bk) (a : Int) (w : World) (h : Led w B p s) :
    Calls Tryz.prog 63 #[.pointer (some ⟨p, 0, none⟩), .int .i64 a] w fun e w' => e = .returned (.tuple #[.int .i64 (opn s a).1, .int .i64 (opn s a).2.1]) ∧ Led w' B p (opn s a).2.2 ∧ FrT B tP w w' := by
  have Hc := hide (ledOpen_any B p s a w h)
  obtain ⟨⟨x, y, s'⟩, hr⟩ : ∃ r, opn s a = r := ⟨_, rfl⟩
  rw [hr] at Hc ⊢
  clear h hr
  simp only at Hc ⊢
  go_enter Tryz.func63, Tryz.ntmps63
  go_wp2_with fail
  refine (unhide Hc).mono ?_
  rintro e w1 ⟨rfl, h1, h2⟩
  have H1 := hide h1
  have H2 := hide h2
  clear h1 h2
  go_wp2_with fail
  go_ret2
  exact ⟨rfl, unhide H1, unhide H2⟩

end Go.Proofs.YtpcdkhmahbecaaaGreatDoor
