/- Walks of the document's answer: read. Walks of the document's answer: the spots, case by case (laid by genC.py). Walks of the document's answer: the spots, case by case (laid by genC.py). -/
import Derived.Test.YtdchbenfccofpaaGreatDoorC09
import Derived.Test.YtdchbenfccofpaaGreatDoorC01
import Derived.Test.YtdchbenfccofpaaGreatDoorC02
namespace Go.Proofs.YtdchbenfccofpaaGreatDoor
open Go.RowKit Db

theorem split_at (s : ByteArray) (b : UInt8) (c : Int) (hc : c = (b.toNat : Int)) (w : World) (hs : s.size ≤ 200) :
    Calls Tryz.prog 77 #[.string s, .int .u8 c] w fun e w' => ∃ v : Value, ∃ ss : List ByteArray, e = .returned v ∧ ss.map L = split (L s) b ∧
      w'.ownsRow w.heap.size 9 1 v ss.length (ss.map Value.string) ∧ Below w.heap.size w w' := by
  subst hc
  exact split_any s b w (by omega)

theorem two_strings {ss : List ByteArray} {x y : List UInt8} (h : ss.map L = [x, y]) : ∃ a b, ss = [a, b] ∧ L a = x ∧ L b = y := by
  match ss, h with
  | [a, b], h => simp at h; exact ⟨a, b, rfl, h.1, h.2⟩
  | [], h => simp at h
  | [a], h => simp at h
  | a :: b :: c :: r, h => simp at h

theorem cell_one_new' (w : World) (n : Nat) (hn : n = w.heap.size) (x : Value) (t : TypeId) : ∀ j u, [x][j]? = some u → (w.alloc (.cells #[x] t)).cell? ((⟨n, 0, none⟩ : Addr).add j) = some u := by
  subst hn; exact cell_one_new w x t
theorem own_ne {w : World} {B : Nat} {e : TypeId} {size : Nat} {v : Value} {n : Nat} {xs : List Value} (h : w.ownsRow B e size v n xs) {b : Nat} (hb : b < B) : some b ≠ v.ownBlock :=
  fun e => by have := (h.lt b e.symm).1; omega
theorem apart_symm {a b : Value} (h : a.ownBlock = none ∨ a.ownBlock ≠ b.ownBlock) : b.ownBlock = none ∨ b.ownBlock ≠ a.ownBlock := by
  rcases h with h | h
  · cases hb : b.ownBlock with
    | none => exact .inl rfl
    | some x => exact .inr (by rw [h]; simp)
  · exact .inr (fun e => h e.symm)

/-- The sheet that read fills, k periods of it. -/
structure Fill (n0 B : Nat) (w2 wr : World) (pd : List (List UInt8 × List UInt8)) (k : Nat) (vf vt : Value) : Prop where
  blk : Blk wr (n0 + 1) #[vf, vt, .slice none 0 0] 129
  rf : wr.ownsRow B 3 1 vf k ((pd.take k).map (fun p => .int .i64 (val p.1)))
  rt : wr.ownsRow B 3 1 vt k ((pd.take k).map (fun p => .int .i64 (val p.2)))
  apart : vf.ownBlock = none ∨ vf.ownBlock ≠ vt.ownBlock
  frm : Frm B (fun x => x = n0 + 1) w2 wr
  lt : n0 + 1 < B
  le : B ≤ wr.heap.size

theorem day_val (d : ByteArray) (l : List UInt8) (h : L d = l) (hd : dayS l) : d.size ≤ 18 ∧ ∀ k (hk : k < d.size), 48 ≤ d[k].toNat ∧ d[k].toNat ≤ 57 := by
  subst h
  refine ⟨by rw [← L_length]; have := hd.2.1; omega, fun k hk => ?_⟩
  have := hd.2.2 d[k] (by rw [← L_get d k hk]; exact List.getElem_mem _)
  simp [digB] at this
  omega

set_option maxHeartbeats 4000000 in
theorem read_any (s : ByteArray) (w : World) (hs : s.size ≤ 200) (pd : List (List UInt8 × List UInt8)) (rows : List (List UInt8)) (hsh : Sht (L s) pd rows) :
    Calls Tryz.prog 110 #[.string s] w fun e w' => ∃ vf vt vr : Value, ∃ ss : List ByteArray, e = .returned (.agg #[vf, vt, vr]) ∧ ss.map L = rows ∧
      w'.ownsRow w.heap.size 3 1 vf pd.length (pd.map (fun p => .int .i64 (val p.1))) ∧ w'.ownsRow w.heap.size 3 1 vt pd.length (pd.map (fun p => .int .i64 (val p.2))) ∧
      w'.ownsRow w.heap.size 9 1 vr ss.length (ss.map Value.string) ∧ Below w.heap.size w w' := by
  obtain ⟨⟨x, y, h1, h2, h3⟩, hdays⟩ := hsh
  obtain ⟨ii, hi, hz0, hz1, hz2⟩ := info_parts info_int
  have H1 := hide h1
  have H2 := hide h2
  have H3 := hide h3
  have Hdays := hide hdays
  clear h1 h2 h3 hdays
  go_enter Tryz.func110, Tryz.ntmps110
  go_wp2_with fail
  refine (bare_any s _ hs).mono ?_
  rintro e w1 ⟨t, rfl, ht, rfl⟩
  have htz : t.size ≤ 200 := by rw [← L_length, ht]; exact Nat.le_trans (bare_le _) (by rw [L_length]; exact hs)
  go_wp2_with fail
  refine (split_at t 124 124 rfl _ htz).mono ?_
  rintro e w1 ⟨v1, ss1, rfl, hss1, hown1, hb1⟩
  rw [ht, unhide H1] at hss1
  obtain ⟨sx, sy, rfl, hx, hy⟩ := two_strings hss1
  have hlen := split_le (bare (L s)) 124
  rw [unhide H1, ← ht, L_length] at hlen
  have hxz : sx.size ≤ 200 := by rw [← L_length, hx]; exact Nat.le_trans (hlen x (by simp)) htz
  have hyz : sy.size ≤ 200 := by rw [← L_length, hy]; exact Nat.le_trans (hlen y (by simp)) htz
  clear hlen hss1 ht H1
  obtain ⟨g1, cap1, rfl, hg1, hg1'⟩ := ownsRow_some hown1 (by simp)
  have hc10 := ownsRow_cell hown1 (j := 0) rfl
  have hc11 := ownsRow_cell hown1 (j := 1) rfl
  have Hown1 := hide hown1
  have Hb1 := hide hb1
  have Hx := hide hx
  have Hy := hide hy
  have hsz1 := hb1.size
  simp at hsz1
  have HB1 : Hid (Blk w1 (w.heap.size + 1) #[.slice none 0 0, .slice none 0 0, .slice none 0 0] 129) := by
    exact Blk.kept (by have := Blk.new (w.alloc (.cells #[.slice none 0 0, .slice none 0 0, .slice none 0 0] 129)) #[.slice none 0 0, .slice none 0 0, .slice none 0 0] 129; simpa using this) hb1
  have HB0 : Hid (Blk w1 w.heap.size #[.slice none 0 0, .slice none 0 0, .slice none 0 0] 129) := by
    exact Blk.kept ((Blk.new w _ _).alloc _) hb1
  clear hown1 hb1 hx hy
  go_wp2_with fail
  refine (split_at sx 44 44 rfl _ hxz).mono ?_
  rintro e w2 ⟨v2, ss2, rfl, hss2, hown2, hb2⟩
  rw [unhide Hx, unhide H2] at hss2
  have hl2 : ss2.length = pd.length := by have := congrArg List.length hss2; simpa using this
  have hpdl : pd.length ≤ 201 := by
    have := split_len x 44
    rw [unhide H2] at this
    simp at this
    have h4 : x.length ≤ 200 := by rw [← unhide Hx, L_length]; exact hxz
    omega
  rw [hl2] at hown2
  obtain ⟨ao2, cap2, rfl⟩ := ownsRow_form hown2
  have Hss2 := hide hss2
  have Hown2 := hide hown2
  have Hb2 := hide hb2
  have hsz2 := hb2.size
  clear hss2 hown2 hb2 hl2
  go_wp2_with fail
  go_loopw [6] (fun i wr => ∃ k : Nat, ∃ vf vt : Value, k ≤ pd.length ∧ i = .int .i64 k ∧ Hid (Fill w.heap.size w2.heap.size w2 wr pd k vf vt)) (fun i _ => pd.length - (intOf i).toNat)
  case atStart =>
    refine ⟨0, _, _, by omega, rfl, ⟨(unhide HB1).kept (unhide Hb2), World.ownsRow_nil _ _ _ _, World.ownsRow_nil _ _ _ _, .inl rfl, Frm.refl _ _ _, by omega, Nat.le_refl _⟩⟩
  case round =>
    obtain ⟨k, vf, vt, hk, rfl, Hfill⟩ := hrel
    by_cases hlt : k < pd.length
    · obtain ⟨sk, hsk⟩ : ∃ sk, ss2[k]? = some sk := by
        have : k < ss2.length := by
          have := congrArg List.length (unhide Hss2)
          simp at this
          omega
        exact ⟨ss2[k], List.getElem?_eq_getElem this⟩
      obtain ⟨pk, hpk⟩ : ∃ pk, pd[k]? = some pk := ⟨pd[k], List.getElem?_eq_getElem hlt⟩
      have hskL : L sk = pk.1 ++ 45 :: pk.2 := by
        have := congrArg (fun l : List (List UInt8) => l[k]?) (unhide Hss2)
        simp only [List.getElem?_map, hsk, hpk, Option.map_some, Option.some.injEq] at this
        exact this
      have hday := unhide Hdays pk (List.mem_of_getElem? hpk)
      have hskz : sk.size ≤ 200 := by
        rw [← L_length, hskL]
        have h4 := hday.1.2.1
        have h5 := hday.2.2.1
        simp
        omega
      have hcut := split_two 45 pk.1 pk.2 (dayS_ne hday.1 45 rfl) (dayS_ne hday.2 45 rfl)
      have hgr2 : ∃ g2, ao2 = some ⟨g2, 0, none⟩ ∧ w2.heap.size ≥ g2 + 1 ∧ w1.heap.size ≤ g2 := by
        obtain ⟨g, cap, e1, e2, e3⟩ := ownsRow_some (unhide Hown2) (by omega)
        simp only [Value.slice.injEq, true_and] at e1
        exact ⟨g, e1.1, by omega, e2⟩
      obtain ⟨g2, rfl, hg2, hg2'⟩ := hgr2
      have hrow2 := ownsRow_frm (unhide Hown2) (unhide Hfill).frm (fun j hj => by simp [Value.ownBlock] at hj; subst hj; exact ⟨by omega, by omega⟩)
      have hck := ownsRow_cell hrow2 (j := k) (u := .string sk) (by rw [List.getElem?_map, hsk]; rfl)
      have hle := (unhide Hfill).le
      clear hrow2
      go_wp2_with fail
      refine (split_at sk 45 45 rfl _ hskz).mono ?_
      rintro e w3 ⟨v3, ss3, rfl, hss3, hown3, hb3⟩
      rw [hskL, hcut] at hss3
      obtain ⟨sa, sb, rfl, hsa, hsb⟩ := two_strings hss3
      obtain ⟨g3, cap3, rfl, hg3, hg3'⟩ := ownsRow_some hown3 (by simp)
      have hc30 := ownsRow_cell hown3 (j := 0) rfl
      have hc31 := ownsRow_cell hown3 (j := 1) rfl
      have hva := day_val sa pk.1 hsa hday.1
      have hvb := day_val sb pk.2 hsb hday.2
      have Hb3 := hide hb3
      have hsz3 := hb3.size
      obtain ⟨hva1, hva2⟩ := hva
      have Hva2 := hide hva2
      obtain ⟨hvb1, hvb2⟩ := hvb
      have Hvb2 := hide hvb2
      have Hsa := hide hsa
      have Hsb := hide hsb
      have Hday := hide hday
      clear hown3 hb3 hss3 hcut hskL hsk hsa hsb hva2 hvb2 hday hck hskz
      obtain ⟨aof, capf, hvf⟩ := ownsRow_form (unhide Hfill).rf
      obtain ⟨aot, capt, hvt⟩ := ownsRow_form (unhide Hfill).rt
      subst hvf hvt
      have HB := hide ((unhide Hfill).blk.kept (unhide Hb3))
      have hf0 := (unhide HB).cell 0
      have hf1 := (unhide HB).cell 1
      have hz0' := (unhide HB).frozen 0
      have hz1' := (unhide HB).frozen 1
      simp only [List.getElem?_toArray, List.getElem?_cons_zero, List.getElem?_cons_succ] at hf0 hf1
      go_wp2_with fail
      refine (value_any sa _ hva1 (unhide Hva2)).mono ?_
      rintro e w4 ⟨rfl, hv0, hv1, rfl⟩
      rw [unhide Hsa] at hv0 hv1 ⊢
      go_wp2_with fail
      refine (value_any sb _ hvb1 (unhide Hvb2)).mono ?_
      rintro e w4 ⟨rfl, hu0, hu1, rfl⟩
      rw [unhide Hsb] at hu0 hu1 ⊢
      have Hrf := hide (ownsRow_below (unhide Hfill).rf (unhide Hb3))
      have Hrt := hide (ownsRow_below (unhide Hfill).rt (unhide Hb3))
      have Hlt := hide (unhide Hfill).lt
      have Hap := hide (apart_symm (unhide Hfill).apart)
      go_wp2_with (first
          | (at_builtin; refine wpList_append_own_at _ rfl (.tmp 37) (.tmp 39) 28 rfl w2.heap.size 3 ii (.int .i64 0) 1 8 Tryz.underlying28 hi hz0 hz1 hz2 rfl (by decide) (.slice aof k capf) k _ rfl ((unhide Hrf).alloc _) ⟨w4.heap.size, 0, none⟩ 1 1 [.int .i64 (val pk.1)] rfl rfl (cell_one_new _ _ _) (fun x hx => by simp at hx; subst hx; rfl) (by unfold maxLen; omega) (by omega) (by simp; omega) ?_; intro vf' w5 hown5 hgr5 _ hat5; obtain ⟨gf, cf, rfl, hgf, hgf'⟩ := ownsRow_some hown5 (Nat.succ_pos _); have HB5 := hide (((unhide HB).alloc _).grown hgr5 (own_ne (unhide Hrf) (unhide Hlt))); have a0 := (unhide HB5).frozen 0; have a1 := (unhide HB5).cell 1; have a2 := (unhide HB5).frozen 1; have a3 := (unhide HB5).cell 0; simp only [List.getElem?_toArray, List.getElem?_cons_zero, List.getElem?_cons_succ] at a1 a3; have Hown5 := hide hown5; have Hgr5 := hide hgr5; have Hat5 := hide hat5; have hsz5 := hgr5.size; clear hown5 hgr5 hat5 hf0 hf1 hz0' hz1')
          | (at_builtin; refine wpList_append_own_at _ rfl (.tmp 43) (.tmp 45) 28 rfl w2.heap.size 3 ii (.int .i64 0) 1 8 Tryz.underlying28 hi hz0 hz1 hz2 rfl (by decide) (.slice aot k capt) k _ rfl ((ownsRow_setCell_below (((unhide Hrt).alloc _).kept (unhide Hgr5) (unhide Hap)) (unhide Hlt) _).alloc _) ⟨w5.heap.size, 0, none⟩ 1 1 [.int .i64 (val pk.2)] rfl rfl (cell_one_new' _ _ (by simp [World.setCell]) _ _) (fun x hx => by simp at hx; subst hx; rfl) (by unfold maxLen; omega) (by omega) (by simp [World.setCell]; omega) ?_; intro vt' w6 hown6 hgr6 _ hat6; obtain ⟨gt, ct, rfl, hgt, hgt'⟩ := ownsRow_some hown6 (Nat.succ_pos _); have HB6 := hide ((((unhide HB5).set 0 (.slice (some ⟨gf, 0, none⟩) (k + 1) cf)).alloc _).grown hgr6 (own_ne (unhide Hrt) (unhide Hlt))); have b1 := (unhide HB6).frozen 1; have b2 := (unhide HB6).cell 1; have Hown6 := hide hown6; have Hgr6 := hide hgr6; have Hat6 := hide hat6; have hsz6 := hgr6.size; simp at b2; clear hown6 hgr6 hat6 a0 a1 a2 a3))
      go_roundw
      case rel =>
        refine ⟨k + 1, .slice (some ⟨gf, 0, none⟩) (k + 1) cf, .slice (some ⟨gt, 0, none⟩) (k + 1) ct, by omega, by go_num, ?_⟩
        have hpdk : pd.take (k + 1) = pd.take k ++ [pk] := by rw [List.take_add_one, hpk]; rfl
        have hs5 : w4.heap.size < w5.heap.size := by simp at hsz5; omega
        have hs6 : w5.heap.size < w6.heap.size := by simp [World.setCell] at hsz6; omega
        have hne : (Value.slice (some ⟨gf, 0, none⟩) (k + 1) cf).ownBlock ≠ (Value.slice aot k capt).ownBlock := by
          intro e
          have h7 := (unhide Hrt).lt gf e.symm
          rcases unhide Hat5 with h8 | h8
          · rcases (unhide Hfill).apart with h9 | h9
            · rw [h9] at h8; simp [Value.ownBlock] at h8
            · exact h9 (h8.symm.trans e)
          · simp [Value.ownBlock] at h8; omega
        refine ⟨?_, ?_, ?_, ?_, ?_, unhide Hlt, ?_⟩
        · have := (unhide HB6).set 1 (.slice (some ⟨gt, 0, none⟩) (k + 1) ct)
          simpa using this
        · rw [hpdk, List.map_append]
          exact ownsRow_setCell_below (((ownsRow_setCell_below (unhide Hown5) (unhide Hlt) _).alloc _).kept (unhide Hgr6) (.inr hne)) (unhide Hlt) _
        · rw [hpdk, List.map_append]
          exact ownsRow_setCell_below (unhide Hown6) (unhide Hlt) _
        · refine .inr ?_
          rcases unhide Hat6 with e | e
          · rw [e]; exact hne
          · rw [e]; simp [Value.ownBlock, World.setCell]; omega
        · have f1 := ((((unhide Hfill).frm.then (unhide Hfill).le (unhide Hb3)).alloc (by omega) _).grown (unhide Hgr5) (by simp; omega) (fun g hg => .inl ((unhide Hrf).lt g hg).1))
          exact (((f1.setCell (.inr rfl) _).alloc (by simp [World.setCell]; omega) _).grown (unhide Hgr6) (by simp [World.setCell]; omega) (fun g hg => .inl ((unhide Hrt).lt g hg).1)).setCell (.inr rfl) _
        · simp [World.setCell]; omega
      case measure => simp [intOf]; omega
    · obtain rfl : k = pd.length := by omega
      have hrow1 := ownsRow_frm (ownsRow_below (unhide Hown1) (unhide Hb2)) (unhide Hfill).frm (fun j hj => by simp [Value.ownBlock] at hj; subst hj; exact ⟨by omega, by simp at hg1; omega⟩)
      have hc11' := ownsRow_cell hrow1 (j := 1) rfl
      have hle := (unhide Hfill).le
      clear hrow1 hc10 hc11
      go_wp2_with fail
      refine (split_at sy 59 59 rfl _ hyz).mono ?_
      rintro e w3 ⟨v3, ss3, rfl, hss3, hown3, hb3⟩
      rw [unhide Hy, unhide H3] at hss3
      obtain ⟨ao3, cap3, rfl⟩ := ownsRow_form hown3
      obtain ⟨aof, capf, hvf⟩ := ownsRow_form (unhide Hfill).rf
      obtain ⟨aot, capt, hvt⟩ := ownsRow_form (unhide Hfill).rt
      subst hvf hvt
      have HB := hide ((unhide Hfill).blk.kept hb3)
      have HB0' : Hid (Blk w3 w.heap.size #[.slice none 0 0, .slice none 0 0, .slice none 0 0] 129) :=
        (((unhide HB0).kept (unhide Hb2)).frm (unhide Hfill).frm (by have := (unhide Hfill).lt; omega) (by simp)).kept hb3
      have f0 := (unhide HB).cell 0
      have f1 := (unhide HB).cell 1
      have f2 := (unhide HB).cell 2
      have z2 := (unhide HB).frozen 2
      have y0 := (unhide HB0').frozen 0
      have y1 := (unhide HB0').frozen 1
      have y2 := (unhide HB0').frozen 2
      have x0 := (unhide HB0').cell 0
      have x1 := (unhide HB0').cell 1
      have x2 := (unhide HB0').cell 2
      simp only [List.getElem?_toArray, List.getElem?_cons_zero, List.getElem?_cons_succ] at f0 f1 f2 x0 x1 x2
      have Hss3 := hide hss3
      have Hown3 := hide hown3
      have Hb3 := hide hb3
      clear hss3 hown3 hb3
      go_wp2_with fail
      have hlt0 := (unhide Hfill).lt
      have hsz3 := (unhide Hb3).size
      refine bodyPost_ret (v := .agg #[.slice aof pd.length capf, .slice aot pd.length capt, .slice ao3 ss3.length cap3]) (by simp [results, Tryz.results110, go_sem, x0, x1, x2]) rfl ⟨_, _, _, ss3, rfl, unhide Hss3, ?_, ?_, ?_, ?_⟩
      · have r1 := ownsRow_below (unhide Hfill).rf (unhide Hb3)
        rw [List.take_length] at r1
        exact ownsRow_base (ownsRow_setCell_below (ownsRow_setCell_below (ownsRow_setCell_below (ownsRow_setCell_below r1 (by simp; omega) _) (by simp; omega) _) (by simp; omega) _) (by simp; omega) _) (fun g hg => by have := (r1.lt g hg).1; omega)
      · have r1 := ownsRow_below (unhide Hfill).rt (unhide Hb3)
        rw [List.take_length] at r1
        exact ownsRow_base (ownsRow_setCell_below (ownsRow_setCell_below (ownsRow_setCell_below (ownsRow_setCell_below r1 (by simp; omega) _) (by simp; omega) _) (by simp; omega) _) (by simp; omega) _) (fun g hg => by have := (r1.lt g hg).1; omega)
      · have r1 := unhide Hown3
        exact ownsRow_base (ownsRow_setCell_below (ownsRow_setCell_below (ownsRow_setCell_below (ownsRow_setCell_below r1 (by simp; omega) _) (by simp; omega) _) (by simp; omega) _) (by simp; omega) _) (fun g hg => by have := (r1.lt g hg).1; omega)
      · have b0 : Below w.heap.size w w1 := (((Below.refl _ _).alloc (Nat.le_refl _) _).alloc (by simp) _).then' (by simp; omega) (unhide Hb1)
        have b1 : Below w.heap.size w w2 := b0.then' (by omega) (unhide Hb2)
        have b2 : Below w.heap.size w wr := b1.trans ((unhide Hfill).frm.below (by omega) (fun k hk => by omega))
        exact ((((b2.then' (by omega) (unhide Hb3)).setCell (by simp) _).setCell (by simp) _).setCell (by simp) _).setCell (by simp) _

end Go.Proofs.YtdchbenfccofpaaGreatDoor
set_option linter.unusedVariables false
namespace Go.Proofs.YtdchbenfccofpaaGreatDoor
open Go.RowKit Db
set_option maxHeartbeats 1000000 in
theorem days_0dig (d o c : Int) (w : World) (hd0 : 0 ≤ d) (hd1 : d ≤ 18) (ho0 : 0 ≤ o) (ho1 : o ≤ 200) (hc : digB c = true) :
    Calls Tryz.prog 150 #[.agg #[.int .i64 0, .int .i64 d, .int .i64 o], .int .u8 c] w fun e w' => SpotR (daysS 0 d o c) e ∧ Below w.heap.size w w' := by
  have n32 := dig_ne hc 32 rfl
  have n45 := dig_ne hc 45 rfl
  have n44 := dig_ne hc 44 rfl
  have n124 := dig_ne hc 124 rfl
  have Hr : Hid (daysS 0 d o c = some (1, 1, o)) := by
    show _ = _
    unfold daysS
    simp (config := { decide := true }) [*]
  go_enter Tryz.func150, Tryz.ntmps150
  go_wp2_with (first | (go_at_call 158; refine (digit_any _ _).mono ?_; rintro e w' ⟨rfl, rfl⟩))
  refine bodyPost_ret (v := .tuple #[.agg #[.int .i64 (1), .int .i64 (1), .int .i64 (o)], .bool true]) (by simp [results, Tryz.results150, go_sem]) rfl ⟨⟨_, _, _, _, rfl, ?_⟩, ?_⟩
  · rw [unhide Hr]; rfl
  · repeat (first | exact Below.refl _ _ | refine Below.alloc ?_ (by simp) _ | refine Below.setCell ?_ (by simp) _)

set_option maxHeartbeats 1000000 in
theorem days_0c32 (d o : Int) (w : World) (hd0 : 0 ≤ d) (hd1 : d ≤ 18) (ho0 : 0 ≤ o) (ho1 : o ≤ 200) :
    Calls Tryz.prog 150 #[.agg #[.int .i64 0, .int .i64 d, .int .i64 o], .int .u8 32] w fun e w' => SpotR (daysS 0 d o 32) e ∧ Below w.heap.size w w' := by
  have e : digB 32 = false := rfl
  have Hr : Hid (daysS 0 d o 32 = some (0, d, o)) := by
    show _ = _
    unfold daysS
    simp (config := { decide := true }) [*]
  go_enter Tryz.func150, Tryz.ntmps150
  go_wp2_with (first | (go_at_call 158; refine (digit_any _ _).mono ?_; rintro e w' ⟨rfl, rfl⟩))
  refine bodyPost_ret (v := .tuple #[.agg #[.int .i64 (0), .int .i64 (d), .int .i64 (o)], .bool true]) (by simp [results, Tryz.results150, go_sem]) rfl ⟨⟨_, _, _, _, rfl, ?_⟩, ?_⟩
  · rw [unhide Hr]; rfl
  · repeat (first | exact Below.refl _ _ | refine Below.alloc ?_ (by simp) _ | refine Below.setCell ?_ (by simp) _)

set_option maxHeartbeats 1000000 in
theorem days_0c45 (d o : Int) (w : World) (hd0 : 0 ≤ d) (hd1 : d ≤ 18) (ho0 : 0 ≤ o) (ho1 : o ≤ 200) :
    Calls Tryz.prog 150 #[.agg #[.int .i64 0, .int .i64 d, .int .i64 o], .int .u8 45] w fun e w' => SpotR (daysS 0 d o 45) e ∧ Below w.heap.size w w' := by
  have e : digB 45 = false := rfl
  have Hr : Hid (daysS 0 d o 45 = none) := by
    show _ = _
    unfold daysS
    simp (config := { decide := true }) [*]
  go_enter Tryz.func150, Tryz.ntmps150
  go_wp2_with (first | (go_at_call 158; refine (digit_any _ _).mono ?_; rintro e w' ⟨rfl, rfl⟩))
  refine bodyPost_ret (v := .tuple #[.agg #[.int .i64 (0), .int .i64 (d), .int .i64 (o)], .bool false]) (by simp [results, Tryz.results150, go_sem]) rfl ⟨⟨_, _, _, _, rfl, ?_⟩, ?_⟩
  · rw [unhide Hr]; rfl
  · repeat (first | exact Below.refl _ _ | refine Below.alloc ?_ (by simp) _ | refine Below.setCell ?_ (by simp) _)

set_option maxHeartbeats 1000000 in
theorem days_0c44 (d o : Int) (w : World) (hd0 : 0 ≤ d) (hd1 : d ≤ 18) (ho0 : 0 ≤ o) (ho1 : o ≤ 200) :
    Calls Tryz.prog 150 #[.agg #[.int .i64 0, .int .i64 d, .int .i64 o], .int .u8 44] w fun e w' => SpotR (daysS 0 d o 44) e ∧ Below w.heap.size w w' := by
  have e : digB 44 = false := rfl
  have Hr : Hid (daysS 0 d o 44 = none) := by
    show _ = _
    unfold daysS
    simp (config := { decide := true }) [*]
  go_enter Tryz.func150, Tryz.ntmps150
  go_wp2_with (first | (go_at_call 158; refine (digit_any _ _).mono ?_; rintro e w' ⟨rfl, rfl⟩))
  refine bodyPost_ret (v := .tuple #[.agg #[.int .i64 (0), .int .i64 (d), .int .i64 (o)], .bool false]) (by simp [results, Tryz.results150, go_sem]) rfl ⟨⟨_, _, _, _, rfl, ?_⟩, ?_⟩
  · rw [unhide Hr]; rfl
  · repeat (first | exact Below.refl _ _ | refine Below.alloc ?_ (by simp) _ | refine Below.setCell ?_ (by simp) _)

set_option maxHeartbeats 1000000 in
theorem days_0c124 (d o : Int) (w : World) (hd0 : 0 ≤ d) (hd1 : d ≤ 18) (ho0 : 0 ≤ o) (ho1 : o ≤ 200) :
    Calls Tryz.prog 150 #[.agg #[.int .i64 0, .int .i64 d, .int .i64 o], .int .u8 124] w fun e w' => SpotR (daysS 0 d o 124) e ∧ Below w.heap.size w w' := by
  have e : digB 124 = false := rfl
  have Hr : Hid (daysS 0 d o 124 = none) := by
    show _ = _
    unfold daysS
    simp (config := { decide := true }) [*]
  go_enter Tryz.func150, Tryz.ntmps150
  go_wp2_with (first | (go_at_call 158; refine (digit_any _ _).mono ?_; rintro e w' ⟨rfl, rfl⟩))
  refine bodyPost_ret (v := .tuple #[.agg #[.int .i64 (0), .int .i64 (d), .int .i64 (o)], .bool false]) (by simp [results, Tryz.results150, go_sem]) rfl ⟨⟨_, _, _, _, rfl, ?_⟩, ?_⟩
  · rw [unhide Hr]; rfl
  · repeat (first | exact Below.refl _ _ | refine Below.alloc ?_ (by simp) _ | refine Below.setCell ?_ (by simp) _)

set_option maxHeartbeats 1000000 in
theorem days_0oth (d o c : Int) (w : World) (hd0 : 0 ≤ d) (hd1 : d ≤ 18) (ho0 : 0 ≤ o) (ho1 : o ≤ 200) (h32 : (c == 32) = false) (h45 : (c == 45) = false) (h44 : (c == 44) = false) (h124 : (c == 124) = false) (hc : digB c = false) :
    Calls Tryz.prog 150 #[.agg #[.int .i64 0, .int .i64 d, .int .i64 o], .int .u8 c] w fun e w' => SpotR (daysS 0 d o c) e ∧ Below w.heap.size w w' := by
  have Hr : Hid (daysS 0 d o c = none) := by
    show _ = _
    unfold daysS
    simp (config := { decide := true }) [*]
  go_enter Tryz.func150, Tryz.ntmps150
  go_wp2_with (first | (go_at_call 158; refine (digit_any _ _).mono ?_; rintro e w' ⟨rfl, rfl⟩))
  refine bodyPost_ret (v := .tuple #[.agg #[.int .i64 (0), .int .i64 (d), .int .i64 (o)], .bool false]) (by simp [results, Tryz.results150, go_sem]) rfl ⟨⟨_, _, _, _, rfl, ?_⟩, ?_⟩
  · rw [unhide Hr]; rfl
  · repeat (first | exact Below.refl _ _ | refine Below.alloc ?_ (by simp) _ | refine Below.setCell ?_ (by simp) _)

set_option maxHeartbeats 1000000 in
theorem days_1dig (d o c : Int) (w : World) (hd0 : 0 ≤ d) (hd1 : d ≤ 18) (ho0 : 0 ≤ o) (ho1 : o ≤ 200) (hc : digB c = true) (h3 : d < 3) :
    Calls Tryz.prog 150 #[.agg #[.int .i64 1, .int .i64 d, .int .i64 o], .int .u8 c] w fun e w' => SpotR (daysS 1 d o c) e ∧ Below w.heap.size w w' := by
  have n32 := dig_ne hc 32 rfl
  have n45 := dig_ne hc 45 rfl
  have n44 := dig_ne hc 44 rfl
  have n124 := dig_ne hc 124 rfl
  have Hr : Hid (daysS 1 d o c = some (1, d + 1, o)) := by
    show _ = _
    unfold daysS
    simp (config := { decide := true }) [*]
  go_enter Tryz.func150, Tryz.ntmps150
  go_wp2_with (first | (go_at_call 158; refine (digit_any _ _).mono ?_; rintro e w' ⟨rfl, rfl⟩))
  refine bodyPost_ret (v := .tuple #[.agg #[.int .i64 (1), .int .i64 (d + 1), .int .i64 (o)], .bool true]) (by simp [results, Tryz.results150, go_sem]) rfl ⟨⟨_, _, _, _, rfl, ?_⟩, ?_⟩
  · rw [unhide Hr]; rfl
  · repeat (first | exact Below.refl _ _ | refine Below.alloc ?_ (by simp) _ | refine Below.setCell ?_ (by simp) _)

set_option maxHeartbeats 1000000 in
theorem days_1dig3 (d o c : Int) (w : World) (hd0 : 0 ≤ d) (hd1 : d ≤ 18) (ho0 : 0 ≤ o) (ho1 : o ≤ 200) (hc : digB c = true) (h3 : ¬ d < 3) :
    Calls Tryz.prog 150 #[.agg #[.int .i64 1, .int .i64 d, .int .i64 o], .int .u8 c] w fun e w' => SpotR (daysS 1 d o c) e ∧ Below w.heap.size w w' := by
  have n32 := dig_ne hc 32 rfl
  have n45 := dig_ne hc 45 rfl
  have n44 := dig_ne hc 44 rfl
  have n124 := dig_ne hc 124 rfl
  have Hr : Hid (daysS 1 d o c = none) := by
    show _ = _
    unfold daysS
    simp (config := { decide := true }) [*]
  go_enter Tryz.func150, Tryz.ntmps150
  go_wp2_with (first | (go_at_call 158; refine (digit_any _ _).mono ?_; rintro e w' ⟨rfl, rfl⟩))
  refine bodyPost_ret (v := .tuple #[.agg #[.int .i64 (1), .int .i64 (d), .int .i64 (o)], .bool false]) (by simp [results, Tryz.results150, go_sem]) rfl ⟨⟨_, _, _, _, rfl, ?_⟩, ?_⟩
  · rw [unhide Hr]; rfl
  · repeat (first | exact Below.refl _ _ | refine Below.alloc ?_ (by simp) _ | refine Below.setCell ?_ (by simp) _)

set_option maxHeartbeats 1000000 in
theorem days_1c32 (d o : Int) (w : World) (hd0 : 0 ≤ d) (hd1 : d ≤ 18) (ho0 : 0 ≤ o) (ho1 : o ≤ 200) :
    Calls Tryz.prog 150 #[.agg #[.int .i64 1, .int .i64 d, .int .i64 o], .int .u8 32] w fun e w' => SpotR (daysS 1 d o 32) e ∧ Below w.heap.size w w' := by
  have e : digB 32 = false := rfl
  have Hr : Hid (daysS 1 d o 32 = some (2, d, o)) := by
    show _ = _
    unfold daysS
    simp (config := { decide := true }) [*]
  go_enter Tryz.func150, Tryz.ntmps150
  go_wp2_with (first | (go_at_call 158; refine (digit_any _ _).mono ?_; rintro e w' ⟨rfl, rfl⟩))
  refine bodyPost_ret (v := .tuple #[.agg #[.int .i64 (2), .int .i64 (d), .int .i64 (o)], .bool true]) (by simp [results, Tryz.results150, go_sem]) rfl ⟨⟨_, _, _, _, rfl, ?_⟩, ?_⟩
  · rw [unhide Hr]; rfl
  · repeat (first | exact Below.refl _ _ | refine Below.alloc ?_ (by simp) _ | refine Below.setCell ?_ (by simp) _)

set_option maxHeartbeats 1000000 in
theorem days_1c45 (d o : Int) (w : World) (hd0 : 0 ≤ d) (hd1 : d ≤ 18) (ho0 : 0 ≤ o) (ho1 : o ≤ 200) :
    Calls Tryz.prog 150 #[.agg #[.int .i64 1, .int .i64 d, .int .i64 o], .int .u8 45] w fun e w' => SpotR (daysS 1 d o 45) e ∧ Below w.heap.size w w' := by
  have e : digB 45 = false := rfl
  have Hr : Hid (daysS 1 d o 45 = some (3, d, o)) := by
    show _ = _
    unfold daysS
    simp (config := { decide := true }) [*]
  go_enter Tryz.func150, Tryz.ntmps150
  go_wp2_with (first | (go_at_call 158; refine (digit_any _ _).mono ?_; rintro e w' ⟨rfl, rfl⟩))
  refine bodyPost_ret (v := .tuple #[.agg #[.int .i64 (3), .int .i64 (d), .int .i64 (o)], .bool true]) (by simp [results, Tryz.results150, go_sem]) rfl ⟨⟨_, _, _, _, rfl, ?_⟩, ?_⟩
  · rw [unhide Hr]; rfl
  · repeat (first | exact Below.refl _ _ | refine Below.alloc ?_ (by simp) _ | refine Below.setCell ?_ (by simp) _)

set_option maxHeartbeats 1000000 in
theorem days_1c44 (d o : Int) (w : World) (hd0 : 0 ≤ d) (hd1 : d ≤ 18) (ho0 : 0 ≤ o) (ho1 : o ≤ 200) :
    Calls Tryz.prog 150 #[.agg #[.int .i64 1, .int .i64 d, .int .i64 o], .int .u8 44] w fun e w' => SpotR (daysS 1 d o 44) e ∧ Below w.heap.size w w' := by
  have e : digB 44 = false := rfl
  have Hr : Hid (daysS 1 d o 44 = none) := by
    show _ = _
    unfold daysS
    simp (config := { decide := true }) [*]
  go_enter Tryz.func150, Tryz.ntmps150
  go_wp2_with (first | (go_at_call 158; refine (digit_any _ _).mono ?_; rintro e w' ⟨rfl, rfl⟩))
  refine bodyPost_ret (v := .tuple #[.agg #[.int .i64 (1), .int .i64 (d), .int .i64 (o)], .bool false]) (by simp [results, Tryz.results150, go_sem]) rfl ⟨⟨_, _, _, _, rfl, ?_⟩, ?_⟩
  · rw [unhide Hr]; rfl
  · repeat (first | exact Below.refl _ _ | refine Below.alloc ?_ (by simp) _ | refine Below.setCell ?_ (by simp) _)

set_option maxHeartbeats 1000000 in
theorem days_1c124 (d o : Int) (w : World) (hd0 : 0 ≤ d) (hd1 : d ≤ 18) (ho0 : 0 ≤ o) (ho1 : o ≤ 200) :
    Calls Tryz.prog 150 #[.agg #[.int .i64 1, .int .i64 d, .int .i64 o], .int .u8 124] w fun e w' => SpotR (daysS 1 d o 124) e ∧ Below w.heap.size w w' := by
  have e : digB 124 = false := rfl
  have Hr : Hid (daysS 1 d o 124 = none) := by
    show _ = _
    unfold daysS
    simp (config := { decide := true }) [*]
  go_enter Tryz.func150, Tryz.ntmps150
  go_wp2_with (first | (go_at_call 158; refine (digit_any _ _).mono ?_; rintro e w' ⟨rfl, rfl⟩))
  refine bodyPost_ret (v := .tuple #[.agg #[.int .i64 (1), .int .i64 (d), .int .i64 (o)], .bool false]) (by simp [results, Tryz.results150, go_sem]) rfl ⟨⟨_, _, _, _, rfl, ?_⟩, ?_⟩
  · rw [unhide Hr]; rfl
  · repeat (first | exact Below.refl _ _ | refine Below.alloc ?_ (by simp) _ | refine Below.setCell ?_ (by simp) _)

set_option maxHeartbeats 1000000 in
theorem days_1oth (d o c : Int) (w : World) (hd0 : 0 ≤ d) (hd1 : d ≤ 18) (ho0 : 0 ≤ o) (ho1 : o ≤ 200) (h32 : (c == 32) = false) (h45 : (c == 45) = false) (h44 : (c == 44) = false) (h124 : (c == 124) = false) (hc : digB c = false) :
    Calls Tryz.prog 150 #[.agg #[.int .i64 1, .int .i64 d, .int .i64 o], .int .u8 c] w fun e w' => SpotR (daysS 1 d o c) e ∧ Below w.heap.size w w' := by
  have Hr : Hid (daysS 1 d o c = none) := by
    show _ = _
    unfold daysS
    simp (config := { decide := true }) [*]
  go_enter Tryz.func150, Tryz.ntmps150
  go_wp2_with (first | (go_at_call 158; refine (digit_any _ _).mono ?_; rintro e w' ⟨rfl, rfl⟩))
  refine bodyPost_ret (v := .tuple #[.agg #[.int .i64 (1), .int .i64 (d), .int .i64 (o)], .bool false]) (by simp [results, Tryz.results150, go_sem]) rfl ⟨⟨_, _, _, _, rfl, ?_⟩, ?_⟩
  · rw [unhide Hr]; rfl
  · repeat (first | exact Below.refl _ _ | refine Below.alloc ?_ (by simp) _ | refine Below.setCell ?_ (by simp) _)

set_option maxHeartbeats 1000000 in
theorem days_2dig (d o c : Int) (w : World) (hd0 : 0 ≤ d) (hd1 : d ≤ 18) (ho0 : 0 ≤ o) (ho1 : o ≤ 200) (hc : digB c = true) :
    Calls Tryz.prog 150 #[.agg #[.int .i64 2, .int .i64 d, .int .i64 o], .int .u8 c] w fun e w' => SpotR (daysS 2 d o c) e ∧ Below w.heap.size w w' := by
  have n32 := dig_ne hc 32 rfl
  have n45 := dig_ne hc 45 rfl
  have n44 := dig_ne hc 44 rfl
  have n124 := dig_ne hc 124 rfl
  have Hr : Hid (daysS 2 d o c = none) := by
    show _ = _
    unfold daysS
    simp (config := { decide := true }) [*]
  go_enter Tryz.func150, Tryz.ntmps150
  go_wp2_with (first | (go_at_call 158; refine (digit_any _ _).mono ?_; rintro e w' ⟨rfl, rfl⟩))
  refine bodyPost_ret (v := .tuple #[.agg #[.int .i64 (2), .int .i64 (d), .int .i64 (o)], .bool false]) (by simp [results, Tryz.results150, go_sem]) rfl ⟨⟨_, _, _, _, rfl, ?_⟩, ?_⟩
  · rw [unhide Hr]; rfl
  · repeat (first | exact Below.refl _ _ | refine Below.alloc ?_ (by simp) _ | refine Below.setCell ?_ (by simp) _)

set_option maxHeartbeats 1000000 in
theorem days_2c32 (d o : Int) (w : World) (hd0 : 0 ≤ d) (hd1 : d ≤ 18) (ho0 : 0 ≤ o) (ho1 : o ≤ 200) :
    Calls Tryz.prog 150 #[.agg #[.int .i64 2, .int .i64 d, .int .i64 o], .int .u8 32] w fun e w' => SpotR (daysS 2 d o 32) e ∧ Below w.heap.size w w' := by
  have e : digB 32 = false := rfl
  have Hr : Hid (daysS 2 d o 32 = some (2, d, o)) := by
    show _ = _
    unfold daysS
    simp (config := { decide := true }) [*]
  go_enter Tryz.func150, Tryz.ntmps150
  go_wp2_with (first | (go_at_call 158; refine (digit_any _ _).mono ?_; rintro e w' ⟨rfl, rfl⟩))
  refine bodyPost_ret (v := .tuple #[.agg #[.int .i64 (2), .int .i64 (d), .int .i64 (o)], .bool true]) (by simp [results, Tryz.results150, go_sem]) rfl ⟨⟨_, _, _, _, rfl, ?_⟩, ?_⟩
  · rw [unhide Hr]; rfl
  · repeat (first | exact Below.refl _ _ | refine Below.alloc ?_ (by simp) _ | refine Below.setCell ?_ (by simp) _)

set_option maxHeartbeats 1000000 in
theorem days_2c45 (d o : Int) (w : World) (hd0 : 0 ≤ d) (hd1 : d ≤ 18) (ho0 : 0 ≤ o) (ho1 : o ≤ 200) :
    Calls Tryz.prog 150 #[.agg #[.int .i64 2, .int .i64 d, .int .i64 o], .int .u8 45] w fun e w' => SpotR (daysS 2 d o 45) e ∧ Below w.heap.size w w' := by
  have e : digB 45 = false := rfl
  have Hr : Hid (daysS 2 d o 45 = some (3, d, o)) := by
    show _ = _
    unfold daysS
    simp (config := { decide := true }) [*]
  go_enter Tryz.func150, Tryz.ntmps150
  go_wp2_with (first | (go_at_call 158; refine (digit_any _ _).mono ?_; rintro e w' ⟨rfl, rfl⟩))
  refine bodyPost_ret (v := .tuple #[.agg #[.int .i64 (3), .int .i64 (d), .int .i64 (o)], .bool true]) (by simp [results, Tryz.results150, go_sem]) rfl ⟨⟨_, _, _, _, rfl, ?_⟩, ?_⟩
  · rw [unhide Hr]; rfl
  · repeat (first | exact Below.refl _ _ | refine Below.alloc ?_ (by simp) _ | refine Below.setCell ?_ (by simp) _)

set_option maxHeartbeats 1000000 in
theorem days_2c44 (d o : Int) (w : World) (hd0 : 0 ≤ d) (hd1 : d ≤ 18) (ho0 : 0 ≤ o) (ho1 : o ≤ 200) :
    Calls Tryz.prog 150 #[.agg #[.int .i64 2, .int .i64 d, .int .i64 o], .int .u8 44] w fun e w' => SpotR (daysS 2 d o 44) e ∧ Below w.heap.size w w' := by
  have e : digB 44 = false := rfl
  have Hr : Hid (daysS 2 d o 44 = none) := by
    show _ = _
    unfold daysS
    simp (config := { decide := true }) [*]
  go_enter Tryz.func150, Tryz.ntmps150
  go_wp2_with (first | (go_at_call 158; refine (digit_any _ _).mono ?_; rintro e w' ⟨rfl, rfl⟩))
  refine bodyPost_ret (v := .tuple #[.agg #[.int .i64 (2), .int .i64 (d), .int .i64 (o)], .bool false]) (by simp [results, Tryz.results150, go_sem]) rfl ⟨⟨_, _, _, _, rfl, ?_⟩, ?_⟩
  · rw [unhide Hr]; rfl
  · repeat (first | exact Below.refl _ _ | refine Below.alloc ?_ (by simp) _ | refine Below.setCell ?_ (by simp) _)

set_option maxHeartbeats 1000000 in
theorem days_2c124 (d o : Int) (w : World) (hd0 : 0 ≤ d) (hd1 : d ≤ 18) (ho0 : 0 ≤ o) (ho1 : o ≤ 200) :
    Calls Tryz.prog 150 #[.agg #[.int .i64 2, .int .i64 d, .int .i64 o], .int .u8 124] w fun e w' => SpotR (daysS 2 d o 124) e ∧ Below w.heap.size w w' := by
  have e : digB 124 = false := rfl
  have Hr : Hid (daysS 2 d o 124 = none) := by
    show _ = _
    unfold daysS
    simp (config := { decide := true }) [*]
  go_enter Tryz.func150, Tryz.ntmps150
  go_wp2_with (first | (go_at_call 158; refine (digit_any _ _).mono ?_; rintro e w' ⟨rfl, rfl⟩))
  refine bodyPost_ret (v := .tuple #[.agg #[.int .i64 (2), .int .i64 (d), .int .i64 (o)], .bool false]) (by simp [results, Tryz.results150, go_sem]) rfl ⟨⟨_, _, _, _, rfl, ?_⟩, ?_⟩
  · rw [unhide Hr]; rfl
  · repeat (first | exact Below.refl _ _ | refine Below.alloc ?_ (by simp) _ | refine Below.setCell ?_ (by simp) _)

set_option maxHeartbeats 1000000 in
theorem days_2oth (d o c : Int) (w : World) (hd0 : 0 ≤ d) (hd1 : d ≤ 18) (ho0 : 0 ≤ o) (ho1 : o ≤ 200) (h32 : (c == 32) = false) (h45 : (c == 45) = false) (h44 : (c == 44) = false) (h124 : (c == 124) = false) (hc : digB c = false) :
    Calls Tryz.prog 150 #[.agg #[.int .i64 2, .int .i64 d, .int .i64 o], .int .u8 c] w fun e w' => SpotR (daysS 2 d o c) e ∧ Below w.heap.size w w' := by
  have Hr : Hid (daysS 2 d o c = none) := by
    show _ = _
    unfold daysS
    simp (config := { decide := true }) [*]
  go_enter Tryz.func150, Tryz.ntmps150
  go_wp2_with (first | (go_at_call 158; refine (digit_any _ _).mono ?_; rintro e w' ⟨rfl, rfl⟩))
  refine bodyPost_ret (v := .tuple #[.agg #[.int .i64 (2), .int .i64 (d), .int .i64 (o)], .bool false]) (by simp [results, Tryz.results150, go_sem]) rfl ⟨⟨_, _, _, _, rfl, ?_⟩, ?_⟩
  · rw [unhide Hr]; rfl
  · repeat (first | exact Below.refl _ _ | refine Below.alloc ?_ (by simp) _ | refine Below.setCell ?_ (by simp) _)

set_option maxHeartbeats 1000000 in
theorem days_3dig (d o c : Int) (w : World) (hd0 : 0 ≤ d) (hd1 : d ≤ 18) (ho0 : 0 ≤ o) (ho1 : o ≤ 200) (hc : digB c = true) :
    Calls Tryz.prog 150 #[.agg #[.int .i64 3, .int .i64 d, .int .i64 o], .int .u8 c] w fun e w' => SpotR (daysS 3 d o c) e ∧ Below w.heap.size w w' := by
  have n32 := dig_ne hc 32 rfl
  have n45 := dig_ne hc 45 rfl
  have n44 := dig_ne hc 44 rfl
  have n124 := dig_ne hc 124 rfl
  have Hr : Hid (daysS 3 d o c = some (4, 1, o)) := by
    show _ = _
    unfold daysS
    simp (config := { decide := true }) [*]
  go_enter Tryz.func150, Tryz.ntmps150
  go_wp2_with (first | (go_at_call 158; refine (digit_any _ _).mono ?_; rintro e w' ⟨rfl, rfl⟩))
  refine bodyPost_ret (v := .tuple #[.agg #[.int .i64 (4), .int .i64 (1), .int .i64 (o)], .bool true]) (by simp [results, Tryz.results150, go_sem]) rfl ⟨⟨_, _, _, _, rfl, ?_⟩, ?_⟩
  · rw [unhide Hr]; rfl
  · repeat (first | exact Below.refl _ _ | refine Below.alloc ?_ (by simp) _ | refine Below.setCell ?_ (by simp) _)

set_option maxHeartbeats 1000000 in
theorem days_3c32 (d o : Int) (w : World) (hd0 : 0 ≤ d) (hd1 : d ≤ 18) (ho0 : 0 ≤ o) (ho1 : o ≤ 200) :
    Calls Tryz.prog 150 #[.agg #[.int .i64 3, .int .i64 d, .int .i64 o], .int .u8 32] w fun e w' => SpotR (daysS 3 d o 32) e ∧ Below w.heap.size w w' := by
  have e : digB 32 = false := rfl
  have Hr : Hid (daysS 3 d o 32 = some (3, d, o)) := by
    show _ = _
    unfold daysS
    simp (config := { decide := true }) [*]
  go_enter Tryz.func150, Tryz.ntmps150
  go_wp2_with (first | (go_at_call 158; refine (digit_any _ _).mono ?_; rintro e w' ⟨rfl, rfl⟩))
  refine bodyPost_ret (v := .tuple #[.agg #[.int .i64 (3), .int .i64 (d), .int .i64 (o)], .bool true]) (by simp [results, Tryz.results150, go_sem]) rfl ⟨⟨_, _, _, _, rfl, ?_⟩, ?_⟩
  · rw [unhide Hr]; rfl
  · repeat (first | exact Below.refl _ _ | refine Below.alloc ?_ (by simp) _ | refine Below.setCell ?_ (by simp) _)

set_option maxHeartbeats 1000000 in
theorem days_3c45 (d o : Int) (w : World) (hd0 : 0 ≤ d) (hd1 : d ≤ 18) (ho0 : 0 ≤ o) (ho1 : o ≤ 200) :
    Calls Tryz.prog 150 #[.agg #[.int .i64 3, .int .i64 d, .int .i64 o], .int .u8 45] w fun e w' => SpotR (daysS 3 d o 45) e ∧ Below w.heap.size w w' := by
  have e : digB 45 = false := rfl
  have Hr : Hid (daysS 3 d o 45 = none) := by
    show _ = _
    unfold daysS
    simp (config := { decide := true }) [*]
  go_enter Tryz.func150, Tryz.ntmps150
  go_wp2_with (first | (go_at_call 158; refine (digit_any _ _).mono ?_; rintro e w' ⟨rfl, rfl⟩))
  refine bodyPost_ret (v := .tuple #[.agg #[.int .i64 (3), .int .i64 (d), .int .i64 (o)], .bool false]) (by simp [results, Tryz.results150, go_sem]) rfl ⟨⟨_, _, _, _, rfl, ?_⟩, ?_⟩
  · rw [unhide Hr]; rfl
  · repeat (first | exact Below.refl _ _ | refine Below.alloc ?_ (by simp) _ | refine Below.setCell ?_ (by simp) _)

set_option maxHeartbeats 1000000 in
theorem days_3c44 (d o : Int) (w : World) (hd0 : 0 ≤ d) (hd1 : d ≤ 18) (ho0 : 0 ≤ o) (ho1 : o ≤ 200) :
    Calls Tryz.prog 150 #[.agg #[.int .i64 3, .int .i64 d, .int .i64 o], .int .u8 44] w fun e w' => SpotR (daysS 3 d o 44) e ∧ Below w.heap.size w w' := by
  have e : digB 44 = false := rfl
  have Hr : Hid (daysS 3 d o 44 = none) := by
    show _ = _
    unfold daysS
    simp (config := { decide := true }) [*]
  go_enter Tryz.func150, Tryz.ntmps150
  go_wp2_with (first | (go_at_call 158; refine (digit_any _ _).mono ?_; rintro e w' ⟨rfl, rfl⟩))
  refine bodyPost_ret (v := .tuple #[.agg #[.int .i64 (3), .int .i64 (d), .int .i64 (o)], .bool false]) (by simp [results, Tryz.results150, go_sem]) rfl ⟨⟨_, _, _, _, rfl, ?_⟩, ?_⟩
  · rw [unhide Hr]; rfl
  · repeat (first | exact Below.refl _ _ | refine Below.alloc ?_ (by simp) _ | refine Below.setCell ?_ (by simp) _)

set_option maxHeartbeats 1000000 in
theorem days_3c124 (d o : Int) (w : World) (hd0 : 0 ≤ d) (hd1 : d ≤ 18) (ho0 : 0 ≤ o) (ho1 : o ≤ 200) :
    Calls Tryz.prog 150 #[.agg #[.int .i64 3, .int .i64 d, .int .i64 o], .int .u8 124] w fun e w' => SpotR (daysS 3 d o 124) e ∧ Below w.heap.size w w' := by
  have e : digB 124 = false := rfl
  have Hr : Hid (daysS 3 d o 124 = none) := by
    show _ = _
    unfold daysS
    simp (config := { decide := true }) [*]
  go_enter Tryz.func150, Tryz.ntmps150
  go_wp2_with (first | (go_at_call 158; refine (digit_any _ _).mono ?_; rintro e w' ⟨rfl, rfl⟩))
  refine bodyPost_ret (v := .tuple #[.agg #[.int .i64 (3), .int .i64 (d), .int .i64 (o)], .bool false]) (by simp [results, Tryz.results150, go_sem]) rfl ⟨⟨_, _, _, _, rfl, ?_⟩, ?_⟩
  · rw [unhide Hr]; rfl
  · repeat (first | exact Below.refl _ _ | refine Below.alloc ?_ (by simp) _ | refine Below.setCell ?_ (by simp) _)

set_option maxHeartbeats 1000000 in
theorem days_3oth (d o c : Int) (w : World) (hd0 : 0 ≤ d) (hd1 : d ≤ 18) (ho0 : 0 ≤ o) (ho1 : o ≤ 200) (h32 : (c == 32) = false) (h45 : (c == 45) = false) (h44 : (c == 44) = false) (h124 : (c == 124) = false) (hc : digB c = false) :
    Calls Tryz.prog 150 #[.agg #[.int .i64 3, .int .i64 d, .int .i64 o], .int .u8 c] w fun e w' => SpotR (daysS 3 d o c) e ∧ Below w.heap.size w w' := by
  have Hr : Hid (daysS 3 d o c = none) := by
    show _ = _
    unfold daysS
    simp (config := { decide := true }) [*]
  go_enter Tryz.func150, Tryz.ntmps150
  go_wp2_with (first | (go_at_call 158; refine (digit_any _ _).mono ?_; rintro e w' ⟨rfl, rfl⟩))
  refine bodyPost_ret (v := .tuple #[.agg #[.int .i64 (3), .int .i64 (d), .int .i64 (o)], .bool false]) (by simp [results, Tryz.results150, go_sem]) rfl ⟨⟨_, _, _, _, rfl, ?_⟩, ?_⟩
  · rw [unhide Hr]; rfl
  · repeat (first | exact Below.refl _ _ | refine Below.alloc ?_ (by simp) _ | refine Below.setCell ?_ (by simp) _)

set_option maxHeartbeats 1000000 in
theorem days_4dig (d o c : Int) (w : World) (hd0 : 0 ≤ d) (hd1 : d ≤ 18) (ho0 : 0 ≤ o) (ho1 : o ≤ 200) (hc : digB c = true) (h3 : d < 3) :
    Calls Tryz.prog 150 #[.agg #[.int .i64 4, .int .i64 d, .int .i64 o], .int .u8 c] w fun e w' => SpotR (daysS 4 d o c) e ∧ Below w.heap.size w w' := by
  have n32 := dig_ne hc 32 rfl
  have n45 := dig_ne hc 45 rfl
  have n44 := dig_ne hc 44 rfl
  have n124 := dig_ne hc 124 rfl
  have Hr : Hid (daysS 4 d o c = some (4, d + 1, o)) := by
    show _ = _
    unfold daysS
    simp (config := { decide := true }) [*]
  go_enter Tryz.func150, Tryz.ntmps150
  go_wp2_with (first | (go_at_call 158; refine (digit_any _ _).mono ?_; rintro e w' ⟨rfl, rfl⟩))
  refine bodyPost_ret (v := .tuple #[.agg #[.int .i64 (4), .int .i64 (d + 1), .int .i64 (o)], .bool true]) (by simp [results, Tryz.results150, go_sem]) rfl ⟨⟨_, _, _, _, rfl, ?_⟩, ?_⟩
  · rw [unhide Hr]; rfl
  · repeat (first | exact Below.refl _ _ | refine Below.alloc ?_ (by simp) _ | refine Below.setCell ?_ (by simp) _)

set_option maxHeartbeats 1000000 in
theorem days_4dig3 (d o c : Int) (w : World) (hd0 : 0 ≤ d) (hd1 : d ≤ 18) (ho0 : 0 ≤ o) (ho1 : o ≤ 200) (hc : digB c = true) (h3 : ¬ d < 3) :
    Calls Tryz.prog 150 #[.agg #[.int .i64 4, .int .i64 d, .int .i64 o], .int .u8 c] w fun e w' => SpotR (daysS 4 d o c) e ∧ Below w.heap.size w w' := by
  have n32 := dig_ne hc 32 rfl
  have n45 := dig_ne hc 45 rfl
  have n44 := dig_ne hc 44 rfl
  have n124 := dig_ne hc 124 rfl
  have Hr : Hid (daysS 4 d o c = none) := by
    show _ = _
    unfold daysS
    simp (config := { decide := true }) [*]
  go_enter Tryz.func150, Tryz.ntmps150
  go_wp2_with (first | (go_at_call 158; refine (digit_any _ _).mono ?_; rintro e w' ⟨rfl, rfl⟩))
  refine bodyPost_ret (v := .tuple #[.agg #[.int .i64 (4), .int .i64 (d), .int .i64 (o)], .bool false]) (by simp [results, Tryz.results150, go_sem]) rfl ⟨⟨_, _, _, _, rfl, ?_⟩, ?_⟩
  · rw [unhide Hr]; rfl
  · repeat (first | exact Below.refl _ _ | refine Below.alloc ?_ (by simp) _ | refine Below.setCell ?_ (by simp) _)

set_option maxHeartbeats 1000000 in
theorem days_4c32 (d o : Int) (w : World) (hd0 : 0 ≤ d) (hd1 : d ≤ 18) (ho0 : 0 ≤ o) (ho1 : o ≤ 200) :
    Calls Tryz.prog 150 #[.agg #[.int .i64 4, .int .i64 d, .int .i64 o], .int .u8 32] w fun e w' => SpotR (daysS 4 d o 32) e ∧ Below w.heap.size w w' := by
  have e : digB 32 = false := rfl
  have Hr : Hid (daysS 4 d o 32 = some (5, d, o)) := by
    show _ = _
    unfold daysS
    simp (config := { decide := true }) [*]
  go_enter Tryz.func150, Tryz.ntmps150
  go_wp2_with (first | (go_at_call 158; refine (digit_any _ _).mono ?_; rintro e w' ⟨rfl, rfl⟩))
  refine bodyPost_ret (v := .tuple #[.agg #[.int .i64 (5), .int .i64 (d), .int .i64 (o)], .bool true]) (by simp [results, Tryz.results150, go_sem]) rfl ⟨⟨_, _, _, _, rfl, ?_⟩, ?_⟩
  · rw [unhide Hr]; rfl
  · repeat (first | exact Below.refl _ _ | refine Below.alloc ?_ (by simp) _ | refine Below.setCell ?_ (by simp) _)

set_option maxHeartbeats 1000000 in
theorem days_4c45 (d o : Int) (w : World) (hd0 : 0 ≤ d) (hd1 : d ≤ 18) (ho0 : 0 ≤ o) (ho1 : o ≤ 200) :
    Calls Tryz.prog 150 #[.agg #[.int .i64 4, .int .i64 d, .int .i64 o], .int .u8 45] w fun e w' => SpotR (daysS 4 d o 45) e ∧ Below w.heap.size w w' := by
  have e : digB 45 = false := rfl
  have Hr : Hid (daysS 4 d o 45 = none) := by
    show _ = _
    unfold daysS
    simp (config := { decide := true }) [*]
  go_enter Tryz.func150, Tryz.ntmps150
  go_wp2_with (first | (go_at_call 158; refine (digit_any _ _).mono ?_; rintro e w' ⟨rfl, rfl⟩))
  refine bodyPost_ret (v := .tuple #[.agg #[.int .i64 (4), .int .i64 (d), .int .i64 (o)], .bool false]) (by simp [results, Tryz.results150, go_sem]) rfl ⟨⟨_, _, _, _, rfl, ?_⟩, ?_⟩
  · rw [unhide Hr]; rfl
  · repeat (first | exact Below.refl _ _ | refine Below.alloc ?_ (by simp) _ | refine Below.setCell ?_ (by simp) _)

set_option maxHeartbeats 1000000 in
theorem days_4c44 (d o : Int) (w : World) (hd0 : 0 ≤ d) (hd1 : d ≤ 18) (ho0 : 0 ≤ o) (ho1 : o ≤ 200) :
    Calls Tryz.prog 150 #[.agg #[.int .i64 4, .int .i64 d, .int .i64 o], .int .u8 44] w fun e w' => SpotR (daysS 4 d o 44) e ∧ Below w.heap.size w w' := by
  have e : digB 44 = false := rfl
  have Hr : Hid (daysS 4 d o 44 = some (0, d, o)) := by
    show _ = _
    unfold daysS
    simp (config := { decide := true }) [*]
  go_enter Tryz.func150, Tryz.ntmps150
  go_wp2_with (first | (go_at_call 158; refine (digit_any _ _).mono ?_; rintro e w' ⟨rfl, rfl⟩))
  refine bodyPost_ret (v := .tuple #[.agg #[.int .i64 (0), .int .i64 (d), .int .i64 (o)], .bool true]) (by simp [results, Tryz.results150, go_sem]) rfl ⟨⟨_, _, _, _, rfl, ?_⟩, ?_⟩
  · rw [unhide Hr]; rfl
  · repeat (first | exact Below.refl _ _ | refine Below.alloc ?_ (by simp) _ | refine Below.setCell ?_ (by simp) _)

set_option maxHeartbeats 1000000 in
theorem days_4c124 (d o : Int) (w : World) (hd0 : 0 ≤ d) (hd1 : d ≤ 18) (ho0 : 0 ≤ o) (ho1 : o ≤ 200) :
    Calls Tryz.prog 150 #[.agg #[.int .i64 4, .int .i64 d, .int .i64 o], .int .u8 124] w fun e w' => SpotR (daysS 4 d o 124) e ∧ Below w.heap.size w w' := by
  have e : digB 124 = false := rfl
  have Hr : Hid (daysS 4 d o 124 = some (6, d, o)) := by
    show _ = _
    unfold daysS
    simp (config := { decide := true }) [*]
  go_enter Tryz.func150, Tryz.ntmps150
  go_wp2_with (first | (go_at_call 158; refine (digit_any _ _).mono ?_; rintro e w' ⟨rfl, rfl⟩))
  refine bodyPost_ret (v := .tuple #[.agg #[.int .i64 (6), .int .i64 (d), .int .i64 (o)], .bool true]) (by simp [results, Tryz.results150, go_sem]) rfl ⟨⟨_, _, _, _, rfl, ?_⟩, ?_⟩
  · rw [unhide Hr]; rfl
  · repeat (first | exact Below.refl _ _ | refine Below.alloc ?_ (by simp) _ | refine Below.setCell ?_ (by simp) _)

set_option maxHeartbeats 1000000 in
theorem days_4oth (d o c : Int) (w : World) (hd0 : 0 ≤ d) (hd1 : d ≤ 18) (ho0 : 0 ≤ o) (ho1 : o ≤ 200) (h32 : (c == 32) = false) (h45 : (c == 45) = false) (h44 : (c == 44) = false) (h124 : (c == 124) = false) (hc : digB c = false) :
    Calls Tryz.prog 150 #[.agg #[.int .i64 4, .int .i64 d, .int .i64 o], .int .u8 c] w fun e w' => SpotR (daysS 4 d o c) e ∧ Below w.heap.size w w' := by
  have Hr : Hid (daysS 4 d o c = none) := by
    show _ = _
    unfold daysS
    simp (config := { decide := true }) [*]
  go_enter Tryz.func150, Tryz.ntmps150
  go_wp2_with (first | (go_at_call 158; refine (digit_any _ _).mono ?_; rintro e w' ⟨rfl, rfl⟩))
  refine bodyPost_ret (v := .tuple #[.agg #[.int .i64 (4), .int .i64 (d), .int .i64 (o)], .bool false]) (by simp [results, Tryz.results150, go_sem]) rfl ⟨⟨_, _, _, _, rfl, ?_⟩, ?_⟩
  · rw [unhide Hr]; rfl
  · repeat (first | exact Below.refl _ _ | refine Below.alloc ?_ (by simp) _ | refine Below.setCell ?_ (by simp) _)

set_option maxHeartbeats 1000000 in
theorem days_5dig (d o c : Int) (w : World) (hd0 : 0 ≤ d) (hd1 : d ≤ 18) (ho0 : 0 ≤ o) (ho1 : o ≤ 200) (hc : digB c = true) :
    Calls Tryz.prog 150 #[.agg #[.int .i64 5, .int .i64 d, .int .i64 o], .int .u8 c] w fun e w' => SpotR (daysS 5 d o c) e ∧ Below w.heap.size w w' := by
  have n32 := dig_ne hc 32 rfl
  have n45 := dig_ne hc 45 rfl
  have n44 := dig_ne hc 44 rfl
  have n124 := dig_ne hc 124 rfl
  have Hr : Hid (daysS 5 d o c = none) := by
    show _ = _
    unfold daysS
    simp (config := { decide := true }) [*]
  go_enter Tryz.func150, Tryz.ntmps150
  go_wp2_with (first | (go_at_call 158; refine (digit_any _ _).mono ?_; rintro e w' ⟨rfl, rfl⟩))
  refine bodyPost_ret (v := .tuple #[.agg #[.int .i64 (5), .int .i64 (d), .int .i64 (o)], .bool false]) (by simp [results, Tryz.results150, go_sem]) rfl ⟨⟨_, _, _, _, rfl, ?_⟩, ?_⟩
  · rw [unhide Hr]; rfl
  · repeat (first | exact Below.refl _ _ | refine Below.alloc ?_ (by simp) _ | refine Below.setCell ?_ (by simp) _)

set_option maxHeartbeats 1000000 in
theorem days_5c32 (d o : Int) (w : World) (hd0 : 0 ≤ d) (hd1 : d ≤ 18) (ho0 : 0 ≤ o) (ho1 : o ≤ 200) :
    Calls Tryz.prog 150 #[.agg #[.int .i64 5, .int .i64 d, .int .i64 o], .int .u8 32] w fun e w' => SpotR (daysS 5 d o 32) e ∧ Below w.heap.size w w' := by
  have e : digB 32 = false := rfl
  have Hr : Hid (daysS 5 d o 32 = some (5, d, o)) := by
    show _ = _
    unfold daysS
    simp (config := { decide := true }) [*]
  go_enter Tryz.func150, Tryz.ntmps150
  go_wp2_with (first | (go_at_call 158; refine (digit_any _ _).mono ?_; rintro e w' ⟨rfl, rfl⟩))
  refine bodyPost_ret (v := .tuple #[.agg #[.int .i64 (5), .int .i64 (d), .int .i64 (o)], .bool true]) (by simp [results, Tryz.results150, go_sem]) rfl ⟨⟨_, _, _, _, rfl, ?_⟩, ?_⟩
  · rw [unhide Hr]; rfl
  · repeat (first | exact Below.refl _ _ | refine Below.alloc ?_ (by simp) _ | refine Below.setCell ?_ (by simp) _)

set_option maxHeartbeats 1000000 in
theorem days_5c45 (d o : Int) (w : World) (hd0 : 0 ≤ d) (hd1 : d ≤ 18) (ho0 : 0 ≤ o) (ho1 : o ≤ 200) :
    Calls Tryz.prog 150 #[.agg #[.int .i64 5, .int .i64 d, .int .i64 o], .int .u8 45] w fun e w' => SpotR (daysS 5 d o 45) e ∧ Below w.heap.size w w' := by
  have e : digB 45 = false := rfl
  have Hr : Hid (daysS 5 d o 45 = none) := by
    show _ = _
    unfold daysS
    simp (config := { decide := true }) [*]
  go_enter Tryz.func150, Tryz.ntmps150
  go_wp2_with (first | (go_at_call 158; refine (digit_any _ _).mono ?_; rintro e w' ⟨rfl, rfl⟩))
  refine bodyPost_ret (v := .tuple #[.agg #[.int .i64 (5), .int .i64 (d), .int .i64 (o)], .bool false]) (by simp [results, Tryz.results150, go_sem]) rfl ⟨⟨_, _, _, _, rfl, ?_⟩, ?_⟩
  · rw [unhide Hr]; rfl
  · repeat (first | exact Below.refl _ _ | refine Below.alloc ?_ (by simp) _ | refine Below.setCell ?_ (by simp) _)

set_option maxHeartbeats 1000000 in
theorem days_5c44 (d o : Int) (w : World) (hd0 : 0 ≤ d) (hd1 : d ≤ 18) (ho0 : 0 ≤ o) (ho1 : o ≤ 200) :
    Calls Tryz.prog 150 #[.agg #[.int .i64 5, .int .i64 d, .int .i64 o], .int .u8 44] w fun e w' => SpotR (daysS 5 d o 44) e ∧ Below w.heap.size w w' := by
  have e : digB 44 = false := rfl
  have Hr : Hid (daysS 5 d o 44 = some (0, d, o)) := by
    show _ = _
    unfold daysS
    simp (config := { decide := true }) [*]
  go_enter Tryz.func150, Tryz.ntmps150
  go_wp2_with (first | (go_at_call 158; refine (digit_any _ _).mono ?_; rintro e w' ⟨rfl, rfl⟩))
  refine bodyPost_ret (v := .tuple #[.agg #[.int .i64 (0), .int .i64 (d), .int .i64 (o)], .bool true]) (by simp [results, Tryz.results150, go_sem]) rfl ⟨⟨_, _, _, _, rfl, ?_⟩, ?_⟩
  · rw [unhide Hr]; rfl
  · repeat (first | exact Below.refl _ _ | refine Below.alloc ?_ (by simp) _ | refine Below.setCell ?_ (by simp) _)

set_option maxHeartbeats 1000000 in
theorem days_5c124 (d o : Int) (w : World) (hd0 : 0 ≤ d) (hd1 : d ≤ 18) (ho0 : 0 ≤ o) (ho1 : o ≤ 200) :
    Calls Tryz.prog 150 #[.agg #[.int .i64 5, .int .i64 d, .int .i64 o], .int .u8 124] w fun e w' => SpotR (daysS 5 d o 124) e ∧ Below w.heap.size w w' := by
  have e : digB 124 = false := rfl
  have Hr : Hid (daysS 5 d o 124 = some (6, d, o)) := by
    show _ = _
    unfold daysS
    simp (config := { decide := true }) [*]
  go_enter Tryz.func150, Tryz.ntmps150
  go_wp2_with (first | (go_at_call 158; refine (digit_any _ _).mono ?_; rintro e w' ⟨rfl, rfl⟩))
  refine bodyPost_ret (v := .tuple #[.agg #[.int .i64 (6), .int .i64 (d), .int .i64 (o)], .bool true]) (by simp [results, Tryz.results150, go_sem]) rfl ⟨⟨_, _, _, _, rfl, ?_⟩, ?_⟩
  · rw [unhide Hr]; rfl
  · repeat (first | exact Below.refl _ _ | refine Below.alloc ?_ (by simp) _ | refine Below.setCell ?_ (by simp) _)

set_option maxHeartbeats 1000000 in
theorem days_5oth (d o c : Int) (w : World) (hd0 : 0 ≤ d) (hd1 : d ≤ 18) (ho0 : 0 ≤ o) (ho1 : o ≤ 200) (h32 : (c == 32) = false) (h45 : (c == 45) = false) (h44 : (c == 44) = false) (h124 : (c == 124) = false) (hc : digB c = false) :
    Calls Tryz.prog 150 #[.agg #[.int .i64 5, .int .i64 d, .int .i64 o], .int .u8 c] w fun e w' => SpotR (daysS 5 d o c) e ∧ Below w.heap.size w w' := by
  have Hr : Hid (daysS 5 d o c = none) := by
    show _ = _
    unfold daysS
    simp (config := { decide := true }) [*]
  go_enter Tryz.func150, Tryz.ntmps150
  go_wp2_with (first | (go_at_call 158; refine (digit_any _ _).mono ?_; rintro e w' ⟨rfl, rfl⟩))
  refine bodyPost_ret (v := .tuple #[.agg #[.int .i64 (5), .int .i64 (d), .int .i64 (o)], .bool false]) (by simp [results, Tryz.results150, go_sem]) rfl ⟨⟨_, _, _, _, rfl, ?_⟩, ?_⟩
  · rw [unhide Hr]; rfl
  · repeat (first | exact Below.refl _ _ | refine Below.alloc ?_ (by simp) _ | refine Below.setCell ?_ (by simp) _)

theorem days_any (a d o c : Int) (w : World) (ha0 : 0 ≤ a) (ha : a < 6) (hd0 : 0 ≤ d) (hd1 : d ≤ 18) (ho0 : 0 ≤ o) (ho1 : o ≤ 200) :
    Calls Tryz.prog 150 #[.agg #[.int .i64 a, .int .i64 d, .int .i64 o], .int .u8 c] w fun e w' => SpotR (daysS a d o c) e ∧ Below w.heap.size w w' := by
  have hc : a = 0 ∨ a = 1 ∨ a = 2 ∨ a = 3 ∨ a = 4 ∨ a = 5 := by omega
  cases hdig : digB c with
  | true =>
    by_cases h3 : d < 3
    · rcases hc with rfl | rfl | rfl | rfl | rfl | rfl
      · exact days_0dig d o c w hd0 hd1 ho0 ho1 hdig
      · exact days_1dig d o c w hd0 hd1 ho0 ho1 hdig h3
      · exact days_2dig d o c w hd0 hd1 ho0 ho1 hdig
      · exact days_3dig d o c w hd0 hd1 ho0 ho1 hdig
      · exact days_4dig d o c w hd0 hd1 ho0 ho1 hdig h3
      · exact days_5dig d o c w hd0 hd1 ho0 ho1 hdig
    · rcases hc with rfl | rfl | rfl | rfl | rfl | rfl
      · exact days_0dig d o c w hd0 hd1 ho0 ho1 hdig
      · exact days_1dig3 d o c w hd0 hd1 ho0 ho1 hdig h3
      · exact days_2dig d o c w hd0 hd1 ho0 ho1 hdig
      · exact days_3dig d o c w hd0 hd1 ho0 ho1 hdig
      · exact days_4dig3 d o c w hd0 hd1 ho0 ho1 hdig h3
      · exact days_5dig d o c w hd0 hd1 ho0 ho1 hdig
  | false =>
    by_cases h32 : c = 32
    · subst h32
      rcases hc with rfl | rfl | rfl | rfl | rfl | rfl
      · exact days_0c32 d o w hd0 hd1 ho0 ho1
      · exact days_1c32 d o w hd0 hd1 ho0 ho1
      · exact days_2c32 d o w hd0 hd1 ho0 ho1
      · exact days_3c32 d o w hd0 hd1 ho0 ho1
      · exact days_4c32 d o w hd0 hd1 ho0 ho1
      · exact days_5c32 d o w hd0 hd1 ho0 ho1
    by_cases h45 : c = 45
    · subst h45
      rcases hc with rfl | rfl | rfl | rfl | rfl | rfl
      · exact days_0c45 d o w hd0 hd1 ho0 ho1
      · exact days_1c45 d o w hd0 hd1 ho0 ho1
      · exact days_2c45 d o w hd0 hd1 ho0 ho1
      · exact days_3c45 d o w hd0 hd1 ho0 ho1
      · exact days_4c45 d o w hd0 hd1 ho0 ho1
      · exact days_5c45 d o w hd0 hd1 ho0 ho1
    by_cases h44 : c = 44
    · subst h44
      rcases hc with rfl | rfl | rfl | rfl | rfl | rfl
      · exact days_0c44 d o w hd0 hd1 ho0 ho1
      · exact days_1c44 d o w hd0 hd1 ho0 ho1
      · exact days_2c44 d o w hd0 hd1 ho0 ho1
      · exact days_3c44 d o w hd0 hd1 ho0 ho1
      · exact days_4c44 d o w hd0 hd1 ho0 ho1
      · exact days_5c44 d o w hd0 hd1 ho0 ho1
    by_cases h124 : c = 124
    · subst h124
      rcases hc with rfl | rfl | rfl | rfl | rfl | rfl
      · exact days_0c124 d o w hd0 hd1 ho0 ho1
      · exact days_1c124 d o w hd0 hd1 ho0 ho1
      · exact days_2c124 d o w hd0 hd1 ho0 ho1
      · exact days_3c124 d o w hd0 hd1 ho0 ho1
      · exact days_4c124 d o w hd0 hd1 ho0 ho1
      · exact days_5c124 d o w hd0 hd1 ho0 ho1
    rcases hc with rfl | rfl | rfl | rfl | rfl | rfl
    · exact days_0oth d o c w hd0 hd1 ho0 ho1 (beq_false_of h32) (beq_false_of h45) (beq_false_of h44) (beq_false_of h124) hdig
    · exact days_1oth d o c w hd0 hd1 ho0 ho1 (beq_false_of h32) (beq_false_of h45) (beq_false_of h44) (beq_false_of h124) hdig
    · exact days_2oth d o c w hd0 hd1 ho0 ho1 (beq_false_of h32) (beq_false_of h45) (beq_false_of h44) (beq_false_of h124) hdig
    · exact days_3oth d o c w hd0 hd1 ho0 ho1 (beq_false_of h32) (beq_false_of h45) (beq_false_of h44) (beq_false_of h124) hdig
    · exact days_4oth d o c w hd0 hd1 ho0 ho1 (beq_false_of h32) (beq_false_of h45) (beq_false_of h44) (beq_false_of h124) hdig
    · exact days_5oth d o c w hd0 hd1 ho0 ho1 (beq_false_of h32) (beq_false_of h45) (beq_false_of h44) (beq_false_of h124) hdig

end Go.Proofs.YtdchbenfccofpaaGreatDoor
set_option linter.unusedVariables false
namespace Go.Proofs.YtdchbenfccofpaaGreatDoor
open Go.RowKit Db
set_option maxHeartbeats 1000000 in
theorem factor_6c32 (d o : Int) (w : World) (hd0 : 0 ≤ d) (hd1 : d ≤ 18) (ho0 : 0 ≤ o) (ho1 : o ≤ 200) :
    Calls Tryz.prog 151 #[.agg #[.int .i64 6, .int .i64 d, .int .i64 o], .int .u8 32] w fun e w' => SpotR (factS 6 d o 32) e ∧ Below w.heap.size w w' := by
  have edig : digB 32 = false := rfl
  have esel : selB 32 = false := rfl
  have eold : oldB 32 = false := rfl
  have Hr : Hid (factS 6 d o 32 = some (6, d, o)) := by
    show _ = _
    unfold factS
    simp (config := { decide := true }) [*]
  go_enter Tryz.func151, Tryz.ntmps151
  go_wp2_with (first | (go_at_call 158; refine (digit_any _ _).mono ?_; rintro e w' ⟨rfl, rfl⟩) | (go_at_call 160; refine (selector_any _ _).mono ?_; rintro e w' ⟨rfl, rfl⟩) | (go_at_call 155; refine (older_any _ _).mono ?_; rintro e w' ⟨rfl, rfl⟩))
  refine bodyPost_ret (v := .tuple #[.agg #[.int .i64 (6), .int .i64 (d), .int .i64 (o)], .bool true]) (by simp [results, Tryz.results151, go_sem]) rfl ⟨⟨_, _, _, _, rfl, ?_⟩, ?_⟩
  · rw [unhide Hr]; rfl
  · repeat (first | exact Below.refl _ _ | refine Below.alloc ?_ (by simp) _ | refine Below.setCell ?_ (by simp) _)

set_option maxHeartbeats 1000000 in
theorem factor_6c45 (d o : Int) (w : World) (hd0 : 0 ≤ d) (hd1 : d ≤ 18) (ho0 : 0 ≤ o) (ho1 : o ≤ 200) :
    Calls Tryz.prog 151 #[.agg #[.int .i64 6, .int .i64 d, .int .i64 o], .int .u8 45] w fun e w' => SpotR (factS 6 d o 45) e ∧ Below w.heap.size w w' := by
  have edig : digB 45 = false := rfl
  have esel : selB 45 = false := rfl
  have eold : oldB 45 = false := rfl
  have Hr : Hid (factS 6 d o 45 = some (6, d, o)) := by
    show _ = _
    unfold factS
    simp (config := { decide := true }) [*]
  go_enter Tryz.func151, Tryz.ntmps151
  go_wp2_with (first | (go_at_call 158; refine (digit_any _ _).mono ?_; rintro e w' ⟨rfl, rfl⟩) | (go_at_call 160; refine (selector_any _ _).mono ?_; rintro e w' ⟨rfl, rfl⟩) | (go_at_call 155; refine (older_any _ _).mono ?_; rintro e w' ⟨rfl, rfl⟩))
  refine bodyPost_ret (v := .tuple #[.agg #[.int .i64 (6), .int .i64 (d), .int .i64 (o)], .bool true]) (by simp [results, Tryz.results151, go_sem]) rfl ⟨⟨_, _, _, _, rfl, ?_⟩, ?_⟩
  · rw [unhide Hr]; rfl
  · repeat (first | exact Below.refl _ _ | refine Below.alloc ?_ (by simp) _ | refine Below.setCell ?_ (by simp) _)

set_option maxHeartbeats 1000000 in
theorem factor_6c40 (d o : Int) (w : World) (hd0 : 0 ≤ d) (hd1 : d ≤ 18) (ho0 : 0 ≤ o) (ho1 : o ≤ 200) :
    Calls Tryz.prog 151 #[.agg #[.int .i64 6, .int .i64 d, .int .i64 o], .int .u8 40] w fun e w' => SpotR (factS 6 d o 40) e ∧ Below w.heap.size w w' := by
  have edig : digB 40 = false := rfl
  have esel : selB 40 = false := rfl
  have eold : oldB 40 = false := rfl
  have Hr : Hid (factS 6 d o 40 = some (6, d, o + 1)) := by
    show _ = _
    unfold factS
    simp (config := { decide := true }) [*]
  go_enter Tryz.func151, Tryz.ntmps151
  go_wp2_with (first | (go_at_call 158; refine (digit_any _ _).mono ?_; rintro e w' ⟨rfl, rfl⟩) | (go_at_call 160; refine (selector_any _ _).mono ?_; rintro e w' ⟨rfl, rfl⟩) | (go_at_call 155; refine (older_any _ _).mono ?_; rintro e w' ⟨rfl, rfl⟩))
  refine bodyPost_ret (v := .tuple #[.agg #[.int .i64 (6), .int .i64 (d), .int .i64 (o + 1)], .bool true]) (by simp [results, Tryz.results151, go_sem]) rfl ⟨⟨_, _, _, _, rfl, ?_⟩, ?_⟩
  · rw [unhide Hr]; rfl
  · repeat (first | exact Below.refl _ _ | refine Below.alloc ?_ (by simp) _ | refine Below.setCell ?_ (by simp) _)

set_option maxHeartbeats 1000000 in
theorem factor_6dig (d o c : Int) (w : World) (hd0 : 0 ≤ d) (hd1 : d ≤ 18) (ho0 : 0 ≤ o) (ho1 : o ≤ 200) (hc : digB c = true) :
    Calls Tryz.prog 151 #[.agg #[.int .i64 6, .int .i64 d, .int .i64 o], .int .u8 c] w fun e w' => SpotR (factS 6 d o c) e ∧ Below w.heap.size w w' := by
  have n32 := dig_ne hc 32 rfl
  have n45 := dig_ne hc 45 rfl
  have n40 := dig_ne hc 40 rfl
  have Hr : Hid (factS 6 d o c = some (7, 1, o)) := by
    show _ = _
    unfold factS
    simp (config := { decide := true }) [*]
  go_enter Tryz.func151, Tryz.ntmps151
  go_wp2_with (first | (go_at_call 158; refine (digit_any _ _).mono ?_; rintro e w' ⟨rfl, rfl⟩) | (go_at_call 160; refine (selector_any _ _).mono ?_; rintro e w' ⟨rfl, rfl⟩) | (go_at_call 155; refine (older_any _ _).mono ?_; rintro e w' ⟨rfl, rfl⟩))
  refine bodyPost_ret (v := .tuple #[.agg #[.int .i64 (7), .int .i64 (1), .int .i64 (o)], .bool true]) (by simp [results, Tryz.results151, go_sem]) rfl ⟨⟨_, _, _, _, rfl, ?_⟩, ?_⟩
  · rw [unhide Hr]; rfl
  · repeat (first | exact Below.refl _ _ | refine Below.alloc ?_ (by simp) _ | refine Below.setCell ?_ (by simp) _)

set_option maxHeartbeats 1000000 in
theorem factor_6sel (d o c : Int) (w : World) (hd0 : 0 ≤ d) (hd1 : d ≤ 18) (ho0 : 0 ≤ o) (ho1 : o ≤ 200) (hc : selB c = true) :
    Calls Tryz.prog 151 #[.agg #[.int .i64 6, .int .i64 d, .int .i64 o], .int .u8 c] w fun e w' => SpotR (factS 6 d o c) e ∧ Below w.heap.size w w' := by
  have n32 := sel_ne hc 32 rfl
  have n45 := sel_ne hc 45 rfl
  have n40 := sel_ne hc 40 rfl
  have hd := sel_dig hc
  have Hr : Hid (factS 6 d o c = some (8, d, o)) := by
    show _ = _
    unfold factS
    simp (config := { decide := true }) [*]
  go_enter Tryz.func151, Tryz.ntmps151
  go_wp2_with (first | (go_at_call 158; refine (digit_any _ _).mono ?_; rintro e w' ⟨rfl, rfl⟩) | (go_at_call 160; refine (selector_any _ _).mono ?_; rintro e w' ⟨rfl, rfl⟩) | (go_at_call 155; refine (older_any _ _).mono ?_; rintro e w' ⟨rfl, rfl⟩))
  refine bodyPost_ret (v := .tuple #[.agg #[.int .i64 (8), .int .i64 (d), .int .i64 (o)], .bool true]) (by simp [results, Tryz.results151, go_sem]) rfl ⟨⟨_, _, _, _, rfl, ?_⟩, ?_⟩
  · rw [unhide Hr]; rfl
  · repeat (first | exact Below.refl _ _ | refine Below.alloc ?_ (by simp) _ | refine Below.setCell ?_ (by simp) _)

set_option maxHeartbeats 1000000 in
theorem factor_6old (d o c : Int) (w : World) (hd0 : 0 ≤ d) (hd1 : d ≤ 18) (ho0 : 0 ≤ o) (ho1 : o ≤ 200) (hc : oldB c = true) :
    Calls Tryz.prog 151 #[.agg #[.int .i64 6, .int .i64 d, .int .i64 o], .int .u8 c] w fun e w' => SpotR (factS 6 d o c) e ∧ Below w.heap.size w w' := by
  have n32 := old_ne hc 32 rfl
  have n45 := old_ne hc 45 rfl
  have n40 := old_ne hc 40 rfl
  have hd := old_dig hc
  have hs := old_sel hc
  have Hr : Hid (factS 6 d o c = some (9, d, o)) := by
    show _ = _
    unfold factS
    simp (config := { decide := true }) [*]
  go_enter Tryz.func151, Tryz.ntmps151
  go_wp2_with (first | (go_at_call 158; refine (digit_any _ _).mono ?_; rintro e w' ⟨rfl, rfl⟩) | (go_at_call 160; refine (selector_any _ _).mono ?_; rintro e w' ⟨rfl, rfl⟩) | (go_at_call 155; refine (older_any _ _).mono ?_; rintro e w' ⟨rfl, rfl⟩))
  refine bodyPost_ret (v := .tuple #[.agg #[.int .i64 (9), .int .i64 (d), .int .i64 (o)], .bool true]) (by simp [results, Tryz.results151, go_sem]) rfl ⟨⟨_, _, _, _, rfl, ?_⟩, ?_⟩
  · rw [unhide Hr]; rfl
  · repeat (first | exact Below.refl _ _ | refine Below.alloc ?_ (by simp) _ | refine Below.setCell ?_ (by simp) _)

set_option maxHeartbeats 1000000 in
theorem factor_6oth (d o c : Int) (w : World) (hd0 : 0 ≤ d) (hd1 : d ≤ 18) (ho0 : 0 ≤ o) (ho1 : o ≤ 200) (h32 : (c == 32) = false) (h45 : (c == 45) = false) (h40 : (c == 40) = false) (hd : digB c = false) (hs : selB c = false) (hl : oldB c = false) :
    Calls Tryz.prog 151 #[.agg #[.int .i64 6, .int .i64 d, .int .i64 o], .int .u8 c] w fun e w' => SpotR (factS 6 d o c) e ∧ Below w.heap.size w w' := by
  have Hr : Hid (factS 6 d o c = none) := by
    show _ = _
    unfold factS
    simp (config := { decide := true }) [*]
  go_enter Tryz.func151, Tryz.ntmps151
  go_wp2_with (first | (go_at_call 158; refine (digit_any _ _).mono ?_; rintro e w' ⟨rfl, rfl⟩) | (go_at_call 160; refine (selector_any _ _).mono ?_; rintro e w' ⟨rfl, rfl⟩) | (go_at_call 155; refine (older_any _ _).mono ?_; rintro e w' ⟨rfl, rfl⟩))
  refine bodyPost_ret (v := .tuple #[.agg #[.int .i64 (6), .int .i64 (d), .int .i64 (o)], .bool false]) (by simp [results, Tryz.results151, go_sem]) rfl ⟨⟨_, _, _, _, rfl, ?_⟩, ?_⟩
  · rw [unhide Hr]; rfl
  · repeat (first | exact Below.refl _ _ | refine Below.alloc ?_ (by simp) _ | refine Below.setCell ?_ (by simp) _)

set_option maxHeartbeats 1000000 in
theorem factor_8c32 (d o : Int) (w : World) (hd0 : 0 ≤ d) (hd1 : d ≤ 18) (ho0 : 0 ≤ o) (ho1 : o ≤ 200) :
    Calls Tryz.prog 151 #[.agg #[.int .i64 8, .int .i64 d, .int .i64 o], .int .u8 32] w fun e w' => SpotR (factS 8 d o 32) e ∧ Below w.heap.size w w' := by
  have edig : digB 32 = false := rfl
  have esel : selB 32 = false := rfl
  have eold : oldB 32 = false := rfl
  have Hr : Hid (factS 8 d o 32 = none) := by
    show _ = _
    unfold factS
    simp (config := { decide := true }) [*]
  go_enter Tryz.func151, Tryz.ntmps151
  go_wp2_with (first | (go_at_call 158; refine (digit_any _ _).mono ?_; rintro e w' ⟨rfl, rfl⟩) | (go_at_call 160; refine (selector_any _ _).mono ?_; rintro e w' ⟨rfl, rfl⟩) | (go_at_call 155; refine (older_any _ _).mono ?_; rintro e w' ⟨rfl, rfl⟩))
  refine bodyPost_ret (v := .tuple #[.agg #[.int .i64 (8), .int .i64 (d), .int .i64 (o)], .bool false]) (by simp [results, Tryz.results151, go_sem]) rfl ⟨⟨_, _, _, _, rfl, ?_⟩, ?_⟩
  · rw [unhide Hr]; rfl
  · repeat (first | exact Below.refl _ _ | refine Below.alloc ?_ (by simp) _ | refine Below.setCell ?_ (by simp) _)

set_option maxHeartbeats 1000000 in
theorem factor_8c45 (d o : Int) (w : World) (hd0 : 0 ≤ d) (hd1 : d ≤ 18) (ho0 : 0 ≤ o) (ho1 : o ≤ 200) :
    Calls Tryz.prog 151 #[.agg #[.int .i64 8, .int .i64 d, .int .i64 o], .int .u8 45] w fun e w' => SpotR (factS 8 d o 45) e ∧ Below w.heap.size w w' := by
  have edig : digB 45 = false := rfl
  have esel : selB 45 = false := rfl
  have eold : oldB 45 = false := rfl
  have Hr : Hid (factS 8 d o 45 = none) := by
    show _ = _
    unfold factS
    simp (config := { decide := true }) [*]
  go_enter Tryz.func151, Tryz.ntmps151
  go_wp2_with (first | (go_at_call 158; refine (digit_any _ _).mono ?_; rintro e w' ⟨rfl, rfl⟩) | (go_at_call 160; refine (selector_any _ _).mono ?_; rintro e w' ⟨rfl, rfl⟩) | (go_at_call 155; refine (older_any _ _).mono ?_; rintro e w' ⟨rfl, rfl⟩))
  refine bodyPost_ret (v := .tuple #[.agg #[.int .i64 (8), .int .i64 (d), .int .i64 (o)], .bool false]) (by simp [results, Tryz.results151, go_sem]) rfl ⟨⟨_, _, _, _, rfl, ?_⟩, ?_⟩
  · rw [unhide Hr]; rfl
  · repeat (first | exact Below.refl _ _ | refine Below.alloc ?_ (by simp) _ | refine Below.setCell ?_ (by simp) _)

set_option maxHeartbeats 1000000 in
theorem factor_8c40 (d o : Int) (w : World) (hd0 : 0 ≤ d) (hd1 : d ≤ 18) (ho0 : 0 ≤ o) (ho1 : o ≤ 200) :
    Calls Tryz.prog 151 #[.agg #[.int .i64 8, .int .i64 d, .int .i64 o], .int .u8 40] w fun e w' => SpotR (factS 8 d o 40) e ∧ Below w.heap.size w w' := by
  have edig : digB 40 = false := rfl
  have esel : selB 40 = false := rfl
  have eold : oldB 40 = false := rfl
  have Hr : Hid (factS 8 d o 40 = none) := by
    show _ = _
    unfold factS
    simp (config := { decide := true }) [*]
  go_enter Tryz.func151, Tryz.ntmps151
  go_wp2_with (first | (go_at_call 158; refine (digit_any _ _).mono ?_; rintro e w' ⟨rfl, rfl⟩) | (go_at_call 160; refine (selector_any _ _).mono ?_; rintro e w' ⟨rfl, rfl⟩) | (go_at_call 155; refine (older_any _ _).mono ?_; rintro e w' ⟨rfl, rfl⟩))
  refine bodyPost_ret (v := .tuple #[.agg #[.int .i64 (8), .int .i64 (d), .int .i64 (o)], .bool false]) (by simp [results, Tryz.results151, go_sem]) rfl ⟨⟨_, _, _, _, rfl, ?_⟩, ?_⟩
  · rw [unhide Hr]; rfl
  · repeat (first | exact Below.refl _ _ | refine Below.alloc ?_ (by simp) _ | refine Below.setCell ?_ (by simp) _)

set_option maxHeartbeats 1000000 in
theorem factor_8dig (d o c : Int) (w : World) (hd0 : 0 ≤ d) (hd1 : d ≤ 18) (ho0 : 0 ≤ o) (ho1 : o ≤ 200) (hc : digB c = true) :
    Calls Tryz.prog 151 #[.agg #[.int .i64 8, .int .i64 d, .int .i64 o], .int .u8 c] w fun e w' => SpotR (factS 8 d o c) e ∧ Below w.heap.size w w' := by
  have n32 := dig_ne hc 32 rfl
  have n45 := dig_ne hc 45 rfl
  have n40 := dig_ne hc 40 rfl
  have Hr : Hid (factS 8 d o c = some (10, d, o)) := by
    show _ = _
    unfold factS
    simp (config := { decide := true }) [*]
  go_enter Tryz.func151, Tryz.ntmps151
  go_wp2_with (first | (go_at_call 158; refine (digit_any _ _).mono ?_; rintro e w' ⟨rfl, rfl⟩) | (go_at_call 160; refine (selector_any _ _).mono ?_; rintro e w' ⟨rfl, rfl⟩) | (go_at_call 155; refine (older_any _ _).mono ?_; rintro e w' ⟨rfl, rfl⟩))
  refine bodyPost_ret (v := .tuple #[.agg #[.int .i64 (10), .int .i64 (d), .int .i64 (o)], .bool true]) (by simp [results, Tryz.results151, go_sem]) rfl ⟨⟨_, _, _, _, rfl, ?_⟩, ?_⟩
  · rw [unhide Hr]; rfl
  · repeat (first | exact Below.refl _ _ | refine Below.alloc ?_ (by simp) _ | refine Below.setCell ?_ (by simp) _)

set_option maxHeartbeats 1000000 in
theorem factor_8sel (d o c : Int) (w : World) (hd0 : 0 ≤ d) (hd1 : d ≤ 18) (ho0 : 0 ≤ o) (ho1 : o ≤ 200) (hc : selB c = true) :
    Calls Tryz.prog 151 #[.agg #[.int .i64 8, .int .i64 d, .int .i64 o], .int .u8 c] w fun e w' => SpotR (factS 8 d o c) e ∧ Below w.heap.size w w' := by
  have n32 := sel_ne hc 32 rfl
  have n45 := sel_ne hc 45 rfl
  have n40 := sel_ne hc 40 rfl
  have hd := sel_dig hc
  have Hr : Hid (factS 8 d o c = none) := by
    show _ = _
    unfold factS
    simp (config := { decide := true }) [*]
  go_enter Tryz.func151, Tryz.ntmps151
  go_wp2_with (first | (go_at_call 158; refine (digit_any _ _).mono ?_; rintro e w' ⟨rfl, rfl⟩) | (go_at_call 160; refine (selector_any _ _).mono ?_; rintro e w' ⟨rfl, rfl⟩) | (go_at_call 155; refine (older_any _ _).mono ?_; rintro e w' ⟨rfl, rfl⟩))
  refine bodyPost_ret (v := .tuple #[.agg #[.int .i64 (8), .int .i64 (d), .int .i64 (o)], .bool false]) (by simp [results, Tryz.results151, go_sem]) rfl ⟨⟨_, _, _, _, rfl, ?_⟩, ?_⟩
  · rw [unhide Hr]; rfl
  · repeat (first | exact Below.refl _ _ | refine Below.alloc ?_ (by simp) _ | refine Below.setCell ?_ (by simp) _)

set_option maxHeartbeats 1000000 in
theorem factor_8old (d o c : Int) (w : World) (hd0 : 0 ≤ d) (hd1 : d ≤ 18) (ho0 : 0 ≤ o) (ho1 : o ≤ 200) (hc : oldB c = true) :
    Calls Tryz.prog 151 #[.agg #[.int .i64 8, .int .i64 d, .int .i64 o], .int .u8 c] w fun e w' => SpotR (factS 8 d o c) e ∧ Below w.heap.size w w' := by
  have n32 := old_ne hc 32 rfl
  have n45 := old_ne hc 45 rfl
  have n40 := old_ne hc 40 rfl
  have hd := old_dig hc
  have hs := old_sel hc
  have Hr : Hid (factS 8 d o c = none) := by
    show _ = _
    unfold factS
    simp (config := { decide := true }) [*]
  go_enter Tryz.func151, Tryz.ntmps151
  go_wp2_with (first | (go_at_call 158; refine (digit_any _ _).mono ?_; rintro e w' ⟨rfl, rfl⟩) | (go_at_call 160; refine (selector_any _ _).mono ?_; rintro e w' ⟨rfl, rfl⟩) | (go_at_call 155; refine (older_any _ _).mono ?_; rintro e w' ⟨rfl, rfl⟩))
  refine bodyPost_ret (v := .tuple #[.agg #[.int .i64 (8), .int .i64 (d), .int .i64 (o)], .bool false]) (by simp [results, Tryz.results151, go_sem]) rfl ⟨⟨_, _, _, _, rfl, ?_⟩, ?_⟩
  · rw [unhide Hr]; rfl
  · repeat (first | exact Below.refl _ _ | refine Below.alloc ?_ (by simp) _ | refine Below.setCell ?_ (by simp) _)

set_option maxHeartbeats 1000000 in
theorem factor_8oth (d o c : Int) (w : World) (hd0 : 0 ≤ d) (hd1 : d ≤ 18) (ho0 : 0 ≤ o) (ho1 : o ≤ 200) (h32 : (c == 32) = false) (h45 : (c == 45) = false) (h40 : (c == 40) = false) (hd : digB c = false) (hs : selB c = false) (hl : oldB c = false) :
    Calls Tryz.prog 151 #[.agg #[.int .i64 8, .int .i64 d, .int .i64 o], .int .u8 c] w fun e w' => SpotR (factS 8 d o c) e ∧ Below w.heap.size w w' := by
  have Hr : Hid (factS 8 d o c = none) := by
    show _ = _
    unfold factS
    simp (config := { decide := true }) [*]
  go_enter Tryz.func151, Tryz.ntmps151
  go_wp2_with (first | (go_at_call 158; refine (digit_any _ _).mono ?_; rintro e w' ⟨rfl, rfl⟩) | (go_at_call 160; refine (selector_any _ _).mono ?_; rintro e w' ⟨rfl, rfl⟩) | (go_at_call 155; refine (older_any _ _).mono ?_; rintro e w' ⟨rfl, rfl⟩))
  refine bodyPost_ret (v := .tuple #[.agg #[.int .i64 (8), .int .i64 (d), .int .i64 (o)], .bool false]) (by simp [results, Tryz.results151, go_sem]) rfl ⟨⟨_, _, _, _, rfl, ?_⟩, ?_⟩
  · rw [unhide Hr]; rfl
  · repeat (first | exact Below.refl _ _ | refine Below.alloc ?_ (by simp) _ | refine Below.setCell ?_ (by simp) _)

set_option maxHeartbeats 1000000 in
theorem factor_9c32 (d o : Int) (w : World) (hd0 : 0 ≤ d) (hd1 : d ≤ 18) (ho0 : 0 ≤ o) (ho1 : o ≤ 200) :
    Calls Tryz.prog 151 #[.agg #[.int .i64 9, .int .i64 d, .int .i64 o], .int .u8 32] w fun e w' => SpotR (factS 9 d o 32) e ∧ Below w.heap.size w w' := by
  have edig : digB 32 = false := rfl
  have esel : selB 32 = false := rfl
  have eold : oldB 32 = false := rfl
  have Hr : Hid (factS 9 d o 32 = none) := by
    show _ = _
    unfold factS
    simp (config := { decide := true }) [*]
  go_enter Tryz.func151, Tryz.ntmps151
  go_wp2_with (first | (go_at_call 158; refine (digit_any _ _).mono ?_; rintro e w' ⟨rfl, rfl⟩) | (go_at_call 160; refine (selector_any _ _).mono ?_; rintro e w' ⟨rfl, rfl⟩) | (go_at_call 155; refine (older_any _ _).mono ?_; rintro e w' ⟨rfl, rfl⟩))
  refine bodyPost_ret (v := .tuple #[.agg #[.int .i64 (9), .int .i64 (d), .int .i64 (o)], .bool false]) (by simp [results, Tryz.results151, go_sem]) rfl ⟨⟨_, _, _, _, rfl, ?_⟩, ?_⟩
  · rw [unhide Hr]; rfl
  · repeat (first | exact Below.refl _ _ | refine Below.alloc ?_ (by simp) _ | refine Below.setCell ?_ (by simp) _)

set_option maxHeartbeats 1000000 in
theorem factor_9c45 (d o : Int) (w : World) (hd0 : 0 ≤ d) (hd1 : d ≤ 18) (ho0 : 0 ≤ o) (ho1 : o ≤ 200) :
    Calls Tryz.prog 151 #[.agg #[.int .i64 9, .int .i64 d, .int .i64 o], .int .u8 45] w fun e w' => SpotR (factS 9 d o 45) e ∧ Below w.heap.size w w' := by
  have edig : digB 45 = false := rfl
  have esel : selB 45 = false := rfl
  have eold : oldB 45 = false := rfl
  have Hr : Hid (factS 9 d o 45 = none) := by
    show _ = _
    unfold factS
    simp (config := { decide := true }) [*]
  go_enter Tryz.func151, Tryz.ntmps151
  go_wp2_with (first | (go_at_call 158; refine (digit_any _ _).mono ?_; rintro e w' ⟨rfl, rfl⟩) | (go_at_call 160; refine (selector_any _ _).mono ?_; rintro e w' ⟨rfl, rfl⟩) | (go_at_call 155; refine (older_any _ _).mono ?_; rintro e w' ⟨rfl, rfl⟩))
  refine bodyPost_ret (v := .tuple #[.agg #[.int .i64 (9), .int .i64 (d), .int .i64 (o)], .bool false]) (by simp [results, Tryz.results151, go_sem]) rfl ⟨⟨_, _, _, _, rfl, ?_⟩, ?_⟩
  · rw [unhide Hr]; rfl
  · repeat (first | exact Below.refl _ _ | refine Below.alloc ?_ (by simp) _ | refine Below.setCell ?_ (by simp) _)

set_option maxHeartbeats 1000000 in
theorem factor_9c40 (d o : Int) (w : World) (hd0 : 0 ≤ d) (hd1 : d ≤ 18) (ho0 : 0 ≤ o) (ho1 : o ≤ 200) :
    Calls Tryz.prog 151 #[.agg #[.int .i64 9, .int .i64 d, .int .i64 o], .int .u8 40] w fun e w' => SpotR (factS 9 d o 40) e ∧ Below w.heap.size w w' := by
  have edig : digB 40 = false := rfl
  have esel : selB 40 = false := rfl
  have eold : oldB 40 = false := rfl
  have Hr : Hid (factS 9 d o 40 = none) := by
    show _ = _
    unfold factS
    simp (config := { decide := true }) [*]
  go_enter Tryz.func151, Tryz.ntmps151
  go_wp2_with (first | (go_at_call 158; refine (digit_any _ _).mono ?_; rintro e w' ⟨rfl, rfl⟩) | (go_at_call 160; refine (selector_any _ _).mono ?_; rintro e w' ⟨rfl, rfl⟩) | (go_at_call 155; refine (older_any _ _).mono ?_; rintro e w' ⟨rfl, rfl⟩))
  refine bodyPost_ret (v := .tuple #[.agg #[.int .i64 (9), .int .i64 (d), .int .i64 (o)], .bool false]) (by simp [results, Tryz.results151, go_sem]) rfl ⟨⟨_, _, _, _, rfl, ?_⟩, ?_⟩
  · rw [unhide Hr]; rfl
  · repeat (first | exact Below.refl _ _ | refine Below.alloc ?_ (by simp) _ | refine Below.setCell ?_ (by simp) _)

set_option maxHeartbeats 1000000 in
theorem factor_9dig (d o c : Int) (w : World) (hd0 : 0 ≤ d) (hd1 : d ≤ 18) (ho0 : 0 ≤ o) (ho1 : o ≤ 200) (hc : digB c = true) :
    Calls Tryz.prog 151 #[.agg #[.int .i64 9, .int .i64 d, .int .i64 o], .int .u8 c] w fun e w' => SpotR (factS 9 d o c) e ∧ Below w.heap.size w w' := by
  have n32 := dig_ne hc 32 rfl
  have n45 := dig_ne hc 45 rfl
  have n40 := dig_ne hc 40 rfl
  have Hr : Hid (factS 9 d o c = some (11, d, o)) := by
    show _ = _
    unfold factS
    simp (config := { decide := true }) [*]
  go_enter Tryz.func151, Tryz.ntmps151
  go_wp2_with (first | (go_at_call 158; refine (digit_any _ _).mono ?_; rintro e w' ⟨rfl, rfl⟩) | (go_at_call 160; refine (selector_any _ _).mono ?_; rintro e w' ⟨rfl, rfl⟩) | (go_at_call 155; refine (older_any _ _).mono ?_; rintro e w' ⟨rfl, rfl⟩))
  refine bodyPost_ret (v := .tuple #[.agg #[.int .i64 (11), .int .i64 (d), .int .i64 (o)], .bool true]) (by simp [results, Tryz.results151, go_sem]) rfl ⟨⟨_, _, _, _, rfl, ?_⟩, ?_⟩
  · rw [unhide Hr]; rfl
  · repeat (first | exact Below.refl _ _ | refine Below.alloc ?_ (by simp) _ | refine Below.setCell ?_ (by simp) _)

set_option maxHeartbeats 1000000 in
theorem factor_9sel (d o c : Int) (w : World) (hd0 : 0 ≤ d) (hd1 : d ≤ 18) (ho0 : 0 ≤ o) (ho1 : o ≤ 200) (hc : selB c = true) :
    Calls Tryz.prog 151 #[.agg #[.int .i64 9, .int .i64 d, .int .i64 o], .int .u8 c] w fun e w' => SpotR (factS 9 d o c) e ∧ Below w.heap.size w w' := by
  have n32 := sel_ne hc 32 rfl
  have n45 := sel_ne hc 45 rfl
  have n40 := sel_ne hc 40 rfl
  have hd := sel_dig hc
  have Hr : Hid (factS 9 d o c = none) := by
    show _ = _
    unfold factS
    simp (config := { decide := true }) [*]
  go_enter Tryz.func151, Tryz.ntmps151
  go_wp2_with (first | (go_at_call 158; refine (digit_any _ _).mono ?_; rintro e w' ⟨rfl, rfl⟩) | (go_at_call 160; refine (selector_any _ _).mono ?_; rintro e w' ⟨rfl, rfl⟩) | (go_at_call 155; refine (older_any _ _).mono ?_; rintro e w' ⟨rfl, rfl⟩))
  refine bodyPost_ret (v := .tuple #[.agg #[.int .i64 (9), .int .i64 (d), .int .i64 (o)], .bool false]) (by simp [results, Tryz.results151, go_sem]) rfl ⟨⟨_, _, _, _, rfl, ?_⟩, ?_⟩
  · rw [unhide Hr]; rfl
  · repeat (first | exact Below.refl _ _ | refine Below.alloc ?_ (by simp) _ | refine Below.setCell ?_ (by simp) _)

set_option maxHeartbeats 1000000 in
theorem factor_9old (d o c : Int) (w : World) (hd0 : 0 ≤ d) (hd1 : d ≤ 18) (ho0 : 0 ≤ o) (ho1 : o ≤ 200) (hc : oldB c = true) :
    Calls Tryz.prog 151 #[.agg #[.int .i64 9, .int .i64 d, .int .i64 o], .int .u8 c] w fun e w' => SpotR (factS 9 d o c) e ∧ Below w.heap.size w w' := by
  have n32 := old_ne hc 32 rfl
  have n45 := old_ne hc 45 rfl
  have n40 := old_ne hc 40 rfl
  have hd := old_dig hc
  have hs := old_sel hc
  have Hr : Hid (factS 9 d o c = none) := by
    show _ = _
    unfold factS
    simp (config := { decide := true }) [*]
  go_enter Tryz.func151, Tryz.ntmps151
  go_wp2_with (first | (go_at_call 158; refine (digit_any _ _).mono ?_; rintro e w' ⟨rfl, rfl⟩) | (go_at_call 160; refine (selector_any _ _).mono ?_; rintro e w' ⟨rfl, rfl⟩) | (go_at_call 155; refine (older_any _ _).mono ?_; rintro e w' ⟨rfl, rfl⟩))
  refine bodyPost_ret (v := .tuple #[.agg #[.int .i64 (9), .int .i64 (d), .int .i64 (o)], .bool false]) (by simp [results, Tryz.results151, go_sem]) rfl ⟨⟨_, _, _, _, rfl, ?_⟩, ?_⟩
  · rw [unhide Hr]; rfl
  · repeat (first | exact Below.refl _ _ | refine Below.alloc ?_ (by simp) _ | refine Below.setCell ?_ (by simp) _)

set_option maxHeartbeats 1000000 in
theorem factor_9oth (d o c : Int) (w : World) (hd0 : 0 ≤ d) (hd1 : d ≤ 18) (ho0 : 0 ≤ o) (ho1 : o ≤ 200) (h32 : (c == 32) = false) (h45 : (c == 45) = false) (h40 : (c == 40) = false) (hd : digB c = false) (hs : selB c = false) (hl : oldB c = false) :
    Calls Tryz.prog 151 #[.agg #[.int .i64 9, .int .i64 d, .int .i64 o], .int .u8 c] w fun e w' => SpotR (factS 9 d o c) e ∧ Below w.heap.size w w' := by
  have Hr : Hid (factS 9 d o c = none) := by
    show _ = _
    unfold factS
    simp (config := { decide := true }) [*]
  go_enter Tryz.func151, Tryz.ntmps151
  go_wp2_with (first | (go_at_call 158; refine (digit_any _ _).mono ?_; rintro e w' ⟨rfl, rfl⟩) | (go_at_call 160; refine (selector_any _ _).mono ?_; rintro e w' ⟨rfl, rfl⟩) | (go_at_call 155; refine (older_any _ _).mono ?_; rintro e w' ⟨rfl, rfl⟩))
  refine bodyPost_ret (v := .tuple #[.agg #[.int .i64 (9), .int .i64 (d), .int .i64 (o)], .bool false]) (by simp [results, Tryz.results151, go_sem]) rfl ⟨⟨_, _, _, _, rfl, ?_⟩, ?_⟩
  · rw [unhide Hr]; rfl
  · repeat (first | exact Below.refl _ _ | refine Below.alloc ?_ (by simp) _ | refine Below.setCell ?_ (by simp) _)

theorem factor_any (a d o c : Int) (w : World) (ha : a = 6 ∨ a = 8 ∨ a = 9) (hd0 : 0 ≤ d) (hd1 : d ≤ 18) (ho0 : 0 ≤ o) (ho1 : o ≤ 200) :
    Calls Tryz.prog 151 #[.agg #[.int .i64 a, .int .i64 d, .int .i64 o], .int .u8 c] w fun e w' => SpotR (factS a d o c) e ∧ Below w.heap.size w w' := by
  by_cases h32 : c = 32
  · subst h32
    rcases ha with rfl | rfl | rfl
    · exact factor_6c32 d o w hd0 hd1 ho0 ho1
    · exact factor_8c32 d o w hd0 hd1 ho0 ho1
    · exact factor_9c32 d o w hd0 hd1 ho0 ho1
  by_cases h45 : c = 45
  · subst h45
    rcases ha with rfl | rfl | rfl
    · exact factor_6c45 d o w hd0 hd1 ho0 ho1
    · exact factor_8c45 d o w hd0 hd1 ho0 ho1
    · exact factor_9c45 d o w hd0 hd1 ho0 ho1
  by_cases h40 : c = 40
  · subst h40
    rcases ha with rfl | rfl | rfl
    · exact factor_6c40 d o w hd0 hd1 ho0 ho1
    · exact factor_8c40 d o w hd0 hd1 ho0 ho1
    · exact factor_9c40 d o w hd0 hd1 ho0 ho1
  cases hdig : digB c with
  | true =>
    rcases ha with rfl | rfl | rfl
    · exact factor_6dig d o c w hd0 hd1 ho0 ho1 hdig
    · exact factor_8dig d o c w hd0 hd1 ho0 ho1 hdig
    · exact factor_9dig d o c w hd0 hd1 ho0 ho1 hdig
  | false =>
  cases hsel : selB c with
  | true =>
    rcases ha with rfl | rfl | rfl
    · exact factor_6sel d o c w hd0 hd1 ho0 ho1 hsel
    · exact factor_8sel d o c w hd0 hd1 ho0 ho1 hsel
    · exact factor_9sel d o c w hd0 hd1 ho0 ho1 hsel
  | false =>
  cases hold : oldB c with
  | true =>
    rcases ha with rfl | rfl | rfl
    · exact factor_6old d o c w hd0 hd1 ho0 ho1 hold
    · exact factor_8old d o c w hd0 hd1 ho0 ho1 hold
    · exact factor_9old d o c w hd0 hd1 ho0 ho1 hold
  | false =>
  rcases ha with rfl | rfl | rfl
  · exact factor_6oth d o c w hd0 hd1 ho0 ho1 (beq_false_of h32) (beq_false_of h45) (beq_false_of h40) hdig hsel hold
  · exact factor_8oth d o c w hd0 hd1 ho0 ho1 (beq_false_of h32) (beq_false_of h45) (beq_false_of h40) hdig hsel hold
  · exact factor_9oth d o c w hd0 hd1 ho0 ho1 (beq_false_of h32) (beq_false_of h45) (beq_false_of h40) hdig hsel hold

end Go.Proofs.YtdchbenfccofpaaGreatDoor
