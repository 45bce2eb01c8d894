/- Worlds: below a bound all but some blocks are as they were. Walks of the document's answer: read. -/
import Derived.Test.YtdchbenfccofpaaDoorS01
import Derived.Maps.AppendAt
namespace Go.RowKit

structure Frm (B : Nat) (X : Nat → Prop) (w w' : World) : Prop where
  os : w'.os = w.os
  tape : w'.tape = w.tape
  output : w'.output = w.output
  size : w.heap.size ≤ w'.heap.size
  block : ∀ k, k < B → ¬ X k → w'.heap[k]? = w.heap[k]?

section
variable {B : Nat} {X : Nat → Prop} {a b c w w' : World}
theorem Frm.refl (B : Nat) (X : Nat → Prop) (w : World) : Frm B X w w := ⟨rfl, rfl, rfl, Nat.le_refl _, fun _ _ _ => rfl⟩
theorem Frm.trans (h : Frm B X a b) (k : Frm B X b c) : Frm B X a c :=
  ⟨k.os.trans h.os, k.tape.trans h.tape, k.output.trans h.output, Nat.le_trans h.size k.size, fun i hi hx => (k.block i hi hx).trans (h.block i hi hx)⟩
theorem Frm.mono {B' : Nat} {Y : Nat → Prop} (h : Frm B X a b) (hB : B' ≤ B) (hX : ∀ k, k < B' → X k → Y k) : Frm B' Y a b :=
  ⟨h.os, h.tape, h.output, h.size, fun k hk hy => h.block k (Nat.lt_of_lt_of_le hk hB) (fun hx => hy (hX k hk hx))⟩
theorem Below.frm (h : Below B a b) : Frm B X a b := ⟨h.os, h.tape, h.output, h.size, fun k hk _ => h.block k hk⟩
theorem Frm.below (h : Frm B X a b) {B' : Nat} (hB : B' ≤ B) (hX : ∀ k, k < B' → ¬ X k) : Below B' a b := ⟨h.os, h.tape, h.output, h.size, fun k hk => h.block k (Nat.lt_of_lt_of_le hk hB) (hX k hk)⟩
theorem Frm.then (h : Frm B X a b) (hB : B ≤ b.heap.size) (k : Below b.heap.size b c) : Frm B X a c := h.trans (k.mono hB).frm
theorem Frm.drewN (h : Frm B X a b) (n : Nat) : Frm B X a (b.drewN n) := ⟨h.os, h.tape, h.output, h.size, h.block⟩
theorem Frm.drew (h : Frm B X a b) : Frm B X a b.drew := ⟨h.os, h.tape, h.output, h.size, h.block⟩
theorem Frm.undrewN {n : Nat} (h : Frm B X (a.drewN n) b) : Frm B X a b := ⟨h.os, h.tape, h.output, h.size, h.block⟩
theorem Frm.alloc (h : Frm B X a b) (hB : B ≤ b.heap.size) (o : Obj) : Frm B X a (b.alloc o) :=
  h.trans ⟨rfl, rfl, rfl, by simp, fun k hk _ => Below.heap_alloc _ _ _ (by omega)⟩
theorem Frm.setCell (h : Frm B X a b) {p : Addr} (hp : B ≤ p.block ∨ X p.block) (u : Value) : Frm B X a (b.setCell p u) :=
  h.trans ⟨rfl, rfl, rfl, by simp [World.setCell], fun k hk hx => Below.heap_setCell _ _ _ _ (by rintro rfl; rcases hp with hp | hp; omega; exact hx hp)⟩
theorem Frm.grown {row : Option Nat} (h : Frm B X a b) (hg : b.grownBy c row) (hB : B ≤ b.heap.size) (hr : ∀ k, row = some k → B ≤ k ∨ X k) : Frm B X a c :=
  h.trans ⟨hg.os, hg.tape, hg.output, hg.size, fun k hk hx => hg.block k (by omega) (fun e => by rcases hr k e.symm with h | h; omega; exact hx h)⟩
theorem Blk.frm {n : Nat} {cs : Array Value} {T : TypeId} (h : Blk w n cs T) (hf : Frm B X w w') (hn : n < B) (hx : ¬ X n) : Blk w' n cs T := by
  unfold Blk at h ⊢; rw [hf.block n hn hx]; exact h
theorem ownsRow_frm {base : Nat} {e : TypeId} {size : Nat} {v : Value} {n : Nat} {xs : List Value} (h : w.ownsRow base e size v n xs) (hf : Frm B X w w') (hv : ∀ k, v.ownBlock = some k → k < B ∧ ¬ X k) : w'.ownsRow base e size v n xs := by
  refine ⟨h.1, ?_⟩
  rcases h.2 with hn | ⟨g, cap, cur, rfl, hbg, hgg, rest⟩
  · exact .inl hn
  · exact .inr ⟨g, cap, cur, rfl, hbg, by rw [hf.block g (hv g rfl).1 (hv g rfl).2]; exact hgg, rest⟩
theorem ownsRow_base {base base' : Nat} {e : TypeId} {size : Nat} {v : Value} {n : Nat} {xs : List Value} (h : w.ownsRow base e size v n xs) (hv : ∀ k, v.ownBlock = some k → base' ≤ k) : w.ownsRow base' e size v n xs := by
  refine ⟨h.1, ?_⟩
  rcases h.2 with hn | ⟨g, cap, cur, rfl, hbg, hgg, rest⟩
  · exact .inl hn
  · exact .inr ⟨g, cap, cur, rfl, hv g rfl, hgg, rest⟩
/-- The form of a slice that is owned. -/
theorem ownsRow_form {base : Nat} {e : TypeId} {size : Nat} {v : Value} {n : Nat} {xs : List Value} (h : w.ownsRow base e size v n xs) : ∃ ao cap, v = .slice ao n cap := by
  rcases h.2 with ⟨rfl, rfl⟩ | ⟨g, cap, cur, rfl, _⟩
  · exact ⟨none, 0, rfl⟩
  · exact ⟨_, cap, rfl⟩
theorem ownsRow_some {base : Nat} {e : TypeId} {size : Nat} {v : Value} {n : Nat} {xs : List Value} (h : w.ownsRow base e size v n xs) (hn : 0 < n) : ∃ g cap, v = .slice (some ⟨g, 0, none⟩) n cap ∧ base ≤ g ∧ g < w.heap.size := by
  rcases h.2 with ⟨rfl, rfl⟩ | ⟨g, cap, cur, rfl, hb, hg, _⟩
  · omega
  · exact ⟨g, cap, rfl, hb, (Array.getElem?_eq_some_iff.1 hg).1⟩
theorem ownsRow_cell {base : Nat} {e : TypeId} {size g n cap : Nat} {xs : List Value} (h : w.ownsRow base e size (.slice (some ⟨g, 0, none⟩) n cap) n xs) {j : Nat} {u : Value} (hu : xs[j]? = some u) : w.cell? ⟨g, j, none⟩ = some u := by
  have := h.cells (g := g) rfl j u hu
  rw [Addr.add_lit] at this
  simpa using this
theorem ownsRow_frozen {base : Nat} {e : TypeId} {size g n cap : Nat} {xs : List Value} (h : w.ownsRow base e size (.slice (some ⟨g, 0, none⟩) n cap) n xs) (j : Nat) : w.frozen? ⟨g, j, none⟩ = false := by
  rcases h.2 with ⟨h0, _⟩ | ⟨g', cap', cur, h0, _, hg, _⟩
  · cases h0
  · simp only [Value.slice.injEq, Option.some.injEq, Addr.mk.injEq, and_true, true_and] at h0
    obtain ⟨rfl, rfl⟩ := h0
    simp [World.frozen?, hg]
end
end Go.RowKit
namespace Go.Proofs.YtdchbenfccofpaaDoor
open Go.RowKit Db

theorem split_at (s : ByteArray) (b : UInt8) (c : Int) (hc : c = (b.toNat : Int)) (w : World) (hs : s.size ≤ 200) :
    Calls Tryd.prog 59 #[.string s, .int .u8 c] w fun e w' => ∃ v : Value, ∃ ss : List ByteArray, e = .returned v ∧ ss.map L = split (L s) b ∧
      w'.ownsRow w.heap.size 9 1 v ss.length (ss.map Value.string) ∧ Below w.heap.size w w' := by
  subst hc
  exact split_any s b w (by omega)

theorem two_strings {ss : List ByteArray} {x y : List UInt8} (h : ss.map L = [x, y]) : ∃ a b, ss = [a, b] ∧ L a = x ∧ L b = y := by
  match ss, h with
  | [a, b], h => simp at h; exact ⟨a, b, rfl, h.1, h.2⟩
  | [], h => simp at h
  | [a], h => simp at h
  | a :: b :: c :: r, h => simp at h

theorem cell_one_new' (w : World) (n : Nat) (hn : n = w.heap.size) (x : Value) (t : TypeId) : ∀ j u, [x][j]? = some u → (w.alloc (.cells #[x] t)).cell? ((⟨n, 0, none⟩ : Addr).add j) = some u := by
  subst hn; exact cell_one_new w x t
theorem own_ne {w : World} {B : Nat} {e : TypeId} {size : Nat} {v : Value} {n : Nat} {xs : List Value} (h : w.ownsRow B e size v n xs) {b : Nat} (hb : b < B) : some b ≠ v.ownBlock :=
  fun e => by have := (h.lt b e.symm).1; omega
theorem apart_symm {a b : Value} (h : a.ownBlock = none ∨ a.ownBlock ≠ b.ownBlock) : b.ownBlock = none ∨ b.ownBlock ≠ a.ownBlock := by
  rcases h with h | h
  · cases hb : b.ownBlock with
    | none => exact .inl rfl
    | some x => exact .inr (by rw [h]; simp)
  · exact .inr (fun e => h e.symm)

/-- The sheet that read fills, k periods of it. -/
structure Fill (n0 B : Nat) (w2 wr : World) (pd : List (List UInt8 × List UInt8)) (k : Nat) (vf vt : Value) : Prop where
  blk : Blk wr (n0 + 1) #[vf, vt, .slice none 0 0] 52
  rf : wr.ownsRow B 3 1 vf k ((pd.take k).map (fun p => .int .i64 (val p.1)))
  rt : wr.ownsRow B 3 1 vt k ((pd.take k).map (fun p => .int .i64 (val p.2)))
  apart : vf.ownBlock = none ∨ vf.ownBlock ≠ vt.ownBlock
  frm : Frm B (fun x => x = n0 + 1) w2 wr
  lt : n0 + 1 < B
  le : B ≤ wr.heap.size

theorem day_val (d : ByteArray) (l : List UInt8) (h : L d = l) (hd : dayS l) : d.size ≤ 18 ∧ ∀ k (hk : k < d.size), 48 ≤ d[k].toNat ∧ d[k].toNat ≤ 57 := by
  subst h
  refine ⟨by rw [← L_length]; have := hd.2.1; omega, fun k hk => ?_⟩
  have := hd.2.2 d[k] (by rw [← L_get d k hk]; exact List.getElem_mem _)
  simp [digB] at this
  omega

set_option maxHeartbeats 4000000 in
theorem read_any (s : ByteArray) (w : World) (hs : s.size ≤ 200) (pd : List (List UInt8 × List UInt8)) (rows : List (List UInt8)) (hsh : Sht (L s) pd rows) :
    Calls Tryd.prog 30 #[.string s] w fun e w' => ∃ vf vt vr : Value, ∃ ss : List ByteArray, e = .returned (.agg #[vf, vt, vr]) ∧ ss.map L = rows ∧
      w'.ownsRow w.heap.size 3 1 vf pd.length (pd.map (fun p => .int .i64 (val p.1))) ∧ w'.ownsRow w.heap.size 3 1 vt pd.length (pd.map (fun p => .int .i64 (val p.2))) ∧
      w'.ownsRow w.heap.size 9 1 vr ss.length (ss.map Value.string) ∧ Below w.heap.size w w' := by
  obtain ⟨⟨x, y, h1, h2, h3⟩, hdays⟩ := hsh
  obtain ⟨ii, hi, hz0, hz1, hz2⟩ := info_parts info_int
  have H1 := hide h1
  have H2 := hide h2
  have H3 := hide h3
  have Hdays := hide hdays
  clear h1 h2 h3 hdays
  go_enter Tryd.func30, Tryd.ntmps30
  go_wp2_with fail
  refine (bare_any s _ hs).mono ?_
  rintro e w1 ⟨t, rfl, ht, rfl⟩
  have htz : t.size ≤ 200 := by rw [← L_length, ht]; exact Nat.le_trans (bare_le _) (by rw [L_length]; exact hs)
  go_wp2_with fail
  refine (split_at t 124 124 rfl _ htz).mono ?_
  rintro e w1 ⟨v1, ss1, rfl, hss1, hown1, hb1⟩
  rw [ht, unhide H1] at hss1
  obtain ⟨sx, sy, rfl, hx, hy⟩ := two_strings hss1
  have hlen := split_le (bare (L s)) 124
  rw [unhide H1, ← ht, L_length] at hlen
  have hxz : sx.size ≤ 200 := by rw [← L_length, hx]; exact Nat.le_trans (hlen x (by simp)) htz
  have hyz : sy.size ≤ 200 := by rw [← L_length, hy]; exact Nat.le_trans (hlen y (by simp)) htz
  clear hlen hss1 ht H1
  obtain ⟨g1, cap1, rfl, hg1, hg1'⟩ := ownsRow_some hown1 (by simp)
  have hc10 := ownsRow_cell hown1 (j := 0) rfl
  have hc11 := ownsRow_cell hown1 (j := 1) rfl
  have Hown1 := hide hown1
  have Hb1 := hide hb1
  have Hx := hide hx
  have Hy := hide hy
  have hsz1 := hb1.size
  simp at hsz1
  have HB1 : Hid (Blk w1 (w.heap.size + 1) #[.slice none 0 0, .slice none 0 0, .slice none 0 0] 52) := by
    exact Blk.kept (by have := Blk.new (w.alloc (.cells #[.slice none 0 0, .slice none 0 0, .slice none 0 0] 52)) #[.slice none 0 0, .slice none 0 0, .slice none 0 0] 52; simpa using this) hb1
  have HB0 : Hid (Blk w1 w.heap.size #[.slice none 0 0, .slice none 0 0, .slice none 0 0] 52) := by
    exact Blk.kept ((Blk.new w _ _).alloc _) hb1
  clear hown1 hb1 hx hy
  go_wp2_with fail
  refine (split_at sx 44 44 rfl _ hxz).mono ?_
  rintro e w2 ⟨v2, ss2, rfl, hss2, hown2, hb2⟩
  rw [unhide Hx, unhide H2] at hss2
  have hl2 : ss2.length = pd.length := by have := congrArg List.length hss2; simpa using this
  have hpdl : pd.length ≤ 201 := by
    have := split_len x 44
    rw [unhide H2] at this
    simp at this
    have h4 : x.length ≤ 200 := by rw [← unhide Hx, L_length]; exact hxz
    omega
  rw [hl2] at hown2
  obtain ⟨ao2, cap2, rfl⟩ := ownsRow_form hown2
  have Hss2 := hide hss2
  have Hown2 := hide hown2
  have Hb2 := hide hb2
  have hsz2 := hb2.size
  clear hss2 hown2 hb2 hl2
  go_wp2_with fail
  go_loopw [6] (fun i wr => ∃ k : Nat, ∃ vf vt : Value, k ≤ pd.length ∧ i = .int .i64 k ∧ Hid (Fill w.heap.size w2.heap.size w2 wr pd k vf vt)) (fun i _ => pd.length - (intOf i).toNat)
  case atStart =>
    refine ⟨0, _, _, by omega, rfl, ⟨(unhide HB1).kept (unhide Hb2), World.ownsRow_nil _ _ _ _, World.ownsRow_nil _ _ _ _, .inl rfl, Frm.refl _ _ _, by omega, Nat.le_refl _⟩⟩
  case round =>
    obtain ⟨k, vf, vt, hk, rfl, Hfill⟩ := hrel
    by_cases hlt : k < pd.length
    · obtain ⟨sk, hsk⟩ : ∃ sk, ss2[k]? = some sk := by
        have : k < ss2.length := by
          have := congrArg List.length (unhide Hss2)
          simp at this
          omega
        exact ⟨ss2[k], List.getElem?_eq_getElem this⟩
      obtain ⟨pk, hpk⟩ : ∃ pk, pd[k]? = some pk := ⟨pd[k], List.getElem?_eq_getElem hlt⟩
      have hskL : L sk = pk.1 ++ 45 :: pk.2 := by
        have := congrArg (fun l : List (List UInt8) => l[k]?) (unhide Hss2)
        simp only [List.getElem?_map, hsk, hpk, Option.map_some, Option.some.injEq] at this
        exact this
      have hday := unhide Hdays pk (List.mem_of_getElem? hpk)
      have hskz : sk.size ≤ 200 := by
        rw [← L_length, hskL]
        have h4 := hday.1.2.1
        have h5 := hday.2.2.1
        simp
        omega
      have hcut := split_two 45 pk.1 pk.2 (dayS_ne hday.1 45 rfl) (dayS_ne hday.2 45 rfl)
      have hgr2 : ∃ g2, ao2 = some ⟨g2, 0, none⟩ ∧ w2.heap.size ≥ g2 + 1 ∧ w1.heap.size ≤ g2 := by
        obtain ⟨g, cap, e1, e2, e3⟩ := ownsRow_some (unhide Hown2) (by omega)
        simp only [Value.slice.injEq, true_and] at e1
        exact ⟨g, e1.1, by omega, e2⟩
      obtain ⟨g2, rfl, hg2, hg2'⟩ := hgr2
      have hrow2 := ownsRow_frm (unhide Hown2) (unhide Hfill).frm (fun j hj => by simp [Value.ownBlock] at hj; subst hj; exact ⟨by omega, by omega⟩)
      have hck := ownsRow_cell hrow2 (j := k) (u := .string sk) (by rw [List.getElem?_map, hsk]; rfl)
      have hle := (unhide Hfill).le
      clear hrow2
      go_wp2_with fail
      refine (split_at sk 45 45 rfl _ hskz).mono ?_
      rintro e w3 ⟨v3, ss3, rfl, hss3, hown3, hb3⟩
      rw [hskL, hcut] at hss3
      obtain ⟨sa, sb, rfl, hsa, hsb⟩ := two_strings hss3
      obtain ⟨g3, cap3, rfl, hg3, hg3'⟩ := ownsRow_some hown3 (by simp)
      have hc30 := ownsRow_cell hown3 (j := 0) rfl
      have hc31 := ownsRow_cell hown3 (j := 1) rfl
      have hva := day_val sa pk.1 hsa hday.1
      have hvb := day_val sb pk.2 hsb hday.2
      have Hb3 := hide hb3
      have hsz3 := hb3.size
      obtain ⟨hva1, hva2⟩ := hva
      have Hva2 := hide hva2
      obtain ⟨hvb1, hvb2⟩ := hvb
      have Hvb2 := hide hvb2
      have Hsa := hide hsa
      have Hsb := hide hsb
      have Hday := hide hday
      clear hown3 hb3 hss3 hcut hskL hsk hsa hsb hva2 hvb2 hday hck hskz
      obtain ⟨aof, capf, hvf⟩ := ownsRow_form (unhide Hfill).rf
      obtain ⟨aot, capt, hvt⟩ := ownsRow_form (unhide Hfill).rt
      subst hvf hvt
      have HB := hide ((unhide Hfill).blk.kept (unhide Hb3))
      have hf0 := (unhide HB).cell 0
      have hf1 := (unhide HB).cell 1
      have hz0' := (unhide HB).frozen 0
      have hz1' := (unhide HB).frozen 1
      simp only [List.getElem?_toArray, List.getElem?_cons_zero, List.getElem?_cons_succ] at hf0 hf1
      go_wp2_with fail
      refine (value_any sa _ hva1 (unhide Hva2)).mono ?_
      rintro e w4 ⟨rfl, hv0, hv1, rfl⟩
      rw [unhide Hsa] at hv0 hv1 ⊢
      go_wp2_with fail
      refine (value_any sb _ hvb1 (unhide Hvb2)).mono ?_
      rintro e w4 ⟨rfl, hu0, hu1, rfl⟩
      rw [unhide Hsb] at hu0 hu1 ⊢
      have Hrf := hide (ownsRow_below (unhide Hfill).rf (unhide Hb3))
      have Hrt := hide (ownsRow_below (unhide Hfill).rt (unhide Hb3))
      have Hlt := hide (unhide Hfill).lt
      have Hap := hide (apart_symm (unhide Hfill).apart)
      go_wp2_with (first
          | (at_builtin; refine wpList_append_own_at _ rfl (.tmp 37) (.tmp 39) 33 rfl w2.heap.size 3 ii (.int .i64 0) 1 8 Tryd.underlying33 hi hz0 hz1 hz2 rfl (by decide) (.slice aof k capf) k _ rfl ((unhide Hrf).alloc _) ⟨w4.heap.size, 0, none⟩ 1 1 [.int .i64 (val pk.1)] rfl rfl (cell_one_new _ _ _) (fun x hx => by simp at hx; subst hx; rfl) (by unfold maxLen; omega) (by omega) (by simp; omega) ?_; intro vf' w5 hown5 hgr5 _ hat5; obtain ⟨gf, cf, rfl, hgf, hgf'⟩ := ownsRow_some hown5 (Nat.succ_pos _); have HB5 := hide (((unhide HB).alloc _).grown hgr5 (own_ne (unhide Hrf) (unhide Hlt))); have a0 := (unhide HB5).frozen 0; have a1 := (unhide HB5).cell 1; have a2 := (unhide HB5).frozen 1; have a3 := (unhide HB5).cell 0; simp only [List.getElem?_toArray, List.getElem?_cons_zero, List.getElem?_cons_succ] at a1 a3; have Hown5 := hide hown5; have Hgr5 := hide hgr5; have Hat5 := hide hat5; have hsz5 := hgr5.size; clear hown5 hgr5 hat5 hf0 hf1 hz0' hz1')
          | (at_builtin; refine wpList_append_own_at _ rfl (.tmp 43) (.tmp 45) 33 rfl w2.heap.size 3 ii (.int .i64 0) 1 8 Tryd.underlying33 hi hz0 hz1 hz2 rfl (by decide) (.slice aot k capt) k _ rfl ((ownsRow_setCell_below (((unhide Hrt).alloc _).kept (unhide Hgr5) (unhide Hap)) (unhide Hlt) _).alloc _) ⟨w5.heap.size, 0, none⟩ 1 1 [.int .i64 (val pk.2)] rfl rfl (cell_one_new' _ _ (by simp [World.setCell]) _ _) (fun x hx => by simp at hx; subst hx; rfl) (by unfold maxLen; omega) (by omega) (by simp [World.setCell]; omega) ?_; intro vt' w6 hown6 hgr6 _ hat6; obtain ⟨gt, ct, rfl, hgt, hgt'⟩ := ownsRow_some hown6 (Nat.succ_pos _); have HB6 := hide ((((unhide HB5).set 0 (.slice (some ⟨gf, 0, none⟩) (k + 1) cf)).alloc _).grown hgr6 (own_ne (unhide Hrt) (unhide Hlt))); have b1 := (unhide HB6).frozen 1; have b2 := (unhide HB6).cell 1; have Hown6 := hide hown6; have Hgr6 := hide hgr6; have Hat6 := hide hat6; have hsz6 := hgr6.size; simp at b2; clear hown6 hgr6 hat6 a0 a1 a2 a3))
      go_roundw
      case rel =>
        refine ⟨k + 1, .slice (some ⟨gf, 0, none⟩) (k + 1) cf, .slice (some ⟨gt, 0, none⟩) (k + 1) ct, by omega, by go_num, ?_⟩
        have hpdk : pd.take (k + 1) = pd.take k ++ [pk] := by rw [List.take_add_one, hpk]; rfl
        have hs5 : w4.heap.size < w5.heap.size := by simp at hsz5; omega
        have hs6 : w5.heap.size < w6.heap.size := by simp [World.setCell] at hsz6; omega
        have hne : (Value.slice (some ⟨gf, 0, none⟩) (k + 1) cf).ownBlock ≠ (Value.slice aot k capt).ownBlock := by
          intro e
          have h7 := (unhide Hrt).lt gf e.symm
          rcases unhide Hat5 with h8 | h8
          · rcases (unhide Hfill).apart with h9 | h9
            · rw [h9] at h8; simp [Value.ownBlock] at h8
            · exact h9 (h8.symm.trans e)
          · simp [Value.ownBlock] at h8; omega
        refine ⟨?_, ?_, ?_, ?_, ?_, unhide Hlt, ?_⟩
        · have := (unhide HB6).set 1 (.slice (some ⟨gt, 0, none⟩) (k + 1) ct)
          simpa using this
        · rw [hpdk, List.map_append]
          exact ownsRow_setCell_below (((ownsRow_setCell_below (unhide Hown5) (unhide Hlt) _).alloc _).kept (unhide Hgr6) (.inr hne)) (unhide Hlt) _
        · rw [hpdk, List.map_append]
          exact ownsRow_setCell_below (unhide Hown6) (unhide Hlt) _
        · refine .inr ?_
          rcases unhide Hat6 with e | e
          · rw [e]; exact hne
          · rw [e]; simp [Value.ownBlock, World.setCell]; omega
        · have f1 := ((((unhide Hfill).frm.then (unhide Hfill).le (unhide Hb3)).alloc (by omega) _).grown (unhide Hgr5) (by simp; omega) (fun g hg => .inl ((unhide Hrf).lt g hg).1))
          exact (((f1.setCell (.inr rfl) _).alloc (by simp [World.setCell]; omega) _).grown (unhide Hgr6) (by simp [World.setCell]; omega) (fun g hg => .inl ((unhide Hrt).lt g hg).1)).setCell (.inr rfl) _
        · simp [World.setCell]; omega
      case measure => simp [intOf]; omega
    · obtain rfl : k = pd.length := by omega
      have hrow1 := ownsRow_frm (ownsRow_below (unhide Hown1) (unhide Hb2)) (unhide Hfill).frm (fun j hj => by simp [Value.ownBlock] at hj; subst hj; exact ⟨by omega, by simp at hg1; omega⟩)
      have hc11' := ownsRow_cell hrow1 (j := 1) rfl
      have hle := (unhide Hfill).le
      clear hrow1 hc10 hc11
      go_wp2_with fail
      refine (split_at sy 59 59 rfl _ hyz).mono ?_
      rintro e w3 ⟨v3, ss3, rfl, hss3, hown3, hb3⟩
      rw [unhide Hy, unhide H3] at hss3
      obtain ⟨ao3, cap3, rfl⟩ := ownsRow_form hown3
      obtain ⟨aof, capf, hvf⟩ := ownsRow_form (unhide Hfill).rf
      obtain ⟨aot, capt, hvt⟩ := ownsRow_form (unhide Hfill).rt
      subst hvf hvt
      have HB := hide ((unhide Hfill).blk.kept hb3)
      have HB0' : Hid (Blk w3 w.heap.size #[.slice none 0 0, .slice none 0 0, .slice none 0 0] 52) :=
        (((unhide HB0).kept (unhide Hb2)).frm (unhide Hfill).frm (by have := (unhide Hfill).lt; omega) (by simp)).kept hb3
      have f0 := (unhide HB).cell 0
      have f1 := (unhide HB).cell 1
      have f2 := (unhide HB).cell 2
      have z2 := (unhide HB).frozen 2
      have y0 := (unhide HB0').frozen 0
      have y1 := (unhide HB0').frozen 1
      have y2 := (unhide HB0').frozen 2
      have x0 := (unhide HB0').cell 0
      have x1 := (unhide HB0').cell 1
      have x2 := (unhide HB0').cell 2
      simp only [List.getElem?_toArray, List.getElem?_cons_zero, List.getElem?_cons_succ] at f0 f1 f2 x0 x1 x2
      have Hss3 := hide hss3
      have Hown3 := hide hown3
      have Hb3 := hide hb3
      clear hss3 hown3 hb3
      go_wp2_with fail
      have hlt0 := (unhide Hfill).lt
      have hsz3 := (unhide Hb3).size
      refine bodyPost_ret (v := .agg #[.slice aof pd.length capf, .slice aot pd.length capt, .slice ao3 ss3.length cap3]) (by simp [results, Tryd.results30, go_sem, x0, x1, x2]) rfl ⟨_, _, _, ss3, rfl, unhide Hss3, ?_, ?_, ?_, ?_⟩
      · have r1 := ownsRow_below (unhide Hfill).rf (unhide Hb3)
        rw [List.take_length] at r1
        exact ownsRow_base (ownsRow_setCell_below (ownsRow_setCell_below (ownsRow_setCell_below (ownsRow_setCell_below r1 (by simp; omega) _) (by simp; omega) _) (by simp; omega) _) (by simp; omega) _) (fun g hg => by have := (r1.lt g hg).1; omega)
      · have r1 := ownsRow_below (unhide Hfill).rt (unhide Hb3)
        rw [List.take_length] at r1
        exact ownsRow_base (ownsRow_setCell_below (ownsRow_setCell_below (ownsRow_setCell_below (ownsRow_setCell_below r1 (by simp; omega) _) (by simp; omega) _) (by simp; omega) _) (by simp; omega) _) (fun g hg => by have := (r1.lt g hg).1; omega)
      · have r1 := unhide Hown3
        exact ownsRow_base (ownsRow_setCell_below (ownsRow_setCell_below (ownsRow_setCell_below (ownsRow_setCell_below r1 (by simp; omega) _) (by simp; omega) _) (by simp; omega) _) (by simp; omega) _) (fun g hg => by have := (r1.lt g hg).1; omega)
      · have b0 : Below w.heap.size w w1 := (((Below.refl _ _).alloc (Nat.le_refl _) _).alloc (by simp) _).then' (by simp; omega) (unhide Hb1)
        have b1 : Below w.heap.size w w2 := b0.then' (by omega) (unhide Hb2)
        have b2 : Below w.heap.size w wr := b1.trans ((unhide Hfill).frm.below (by omega) (fun k hk => by omega))
        exact ((((b2.then' (by omega) (unhide Hb3)).setCell (by simp) _).setCell (by simp) _).setCell (by simp) _).setCell (by simp) _

end Go.Proofs.YtdchbenfccofpaaDoor
