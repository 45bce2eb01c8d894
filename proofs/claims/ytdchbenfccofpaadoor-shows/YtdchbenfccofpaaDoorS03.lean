/- Walks of the document's answer: show at a sum. -/
import Derived.Test.YtdchbenfccofpaaDoorS02
namespace Go.Proofs.YtdchbenfccofpaaDoor
open Go.RowKit Db

theorem wf_rank {n : Nat} : ∀ {e : List UInt8} {ps : List Pt} {x : Pc}, Wf n e ps → ShowR ps x → 1 ≤ x.2 := by
  induction n with
  | zero => intro e ps x h; exact absurd h (by simp [Wf])
  | succ n ih =>
    intro e ps x h hx
    rcases h with ⟨h1, h⟩ | ⟨h1, h2⟩ | ⟨h1, p, h2, rfl⟩ | ⟨h1, p, r, h2, h3, rfl⟩
    · obtain ⟨p, rfl, hp⟩ := opnd_opd h
      rw [hx.uniq (showR_leaf hp)]; show 1 ≤ 3; omega
    · exact ih h2 hx
    · obtain ⟨y, hy⟩ := wf_show h2
      rw [hx.uniq (showR_neg hy)]; show 1 ≤ 3; omega
    · obtain ⟨y, hy⟩ := wf_show h2
      obtain ⟨z, hz⟩ := wf_show h3
      rw [hx.uniq (showR_bin h1 hy hz)]
      show 1 ≤ rkS _
      unfold rkS; split <;> omega
theorem bel_a {w w4 w5 : World} {o : Obj} (h : Below w.heap.size w w4) (k : Below (w4.drew.alloc o).heap.size (w4.drew.alloc o) w5) : Below w.heap.size w w5 := by
  have h0 : Below w4.heap.size w4.drew w5 := ((Below.refl _ w4.drew).alloc (Nat.le_refl _) _).then' (by simp) k
  exact h.then h0.undrew
theorem bel_b {w w4 w5 : World} {o : Obj} (h : Below w.heap.size w w4) (k : Below w4.drew.heap.size w4.drew w5) : Below w.heap.size w (w5.alloc o) := by
  have h0 : Below w4.heap.size w4 w5 := Below.undrew k
  exact (h.then h0).alloc (h.then h0).size _
theorem brk_one {x : Pc} (h : 1 ≤ x.2) : brk x 1 = x.1 := by unfold brk; rw [if_neg (by omega)]

set_option maxRecDepth 100000 in
set_option maxHeartbeats 2000000 in
theorem show_sum (n : Nat) (ih : ShowC n) (s : ByteArray) (c : UInt8) (p q : List Pt) (w : World) (hs : s.size ≤ 200) (hc : c = 43 ∨ c = 45) (ho : (cut (L s)).1 = (c.toNat : Int)) (hp : Wf n (cut (L s)).2.1 p) (hq : Wf n (cut (L s)).2.2 q) (hlp : p.length ≤ 200) (hlq : q.length ≤ 200) :
    Calls Tryd.prog 14 #[.string s] w fun e w' => ∃ u : ByteArray, ∃ x : Pc, e = .returned (.string u) ∧ ShowR (p ++ q ++ [((c.toNat : Int), 0)]) x ∧ L u = x.1 ∧ Below w.heap.size w w' := by
  have Hih := hide ih
  have Hp := hide hp
  have Hq := hide hq
  have Ho := hide ho
  clear ih hp hq ho
  go_enter Tryd.func14, Tryd.ntmps14
  go_wp2_with fail
  refine (cut_any s _ hs).mono ?_
  rintro e w1 ⟨o, l, r, rfl, ⟨hco, hcl, hcr⟩, m, rfl⟩
  obtain rfl : (c.toNat : Int) = o := (unhide Ho).symm.trans hco
  have Hl : Hid (Wf n (L l) p) := by show Wf _ _ _; rw [hcl]; exact unhide Hp
  have Hr : Hid (Wf n (L r) q) := by show Wf _ _ _; rw [hcr]; exact unhide Hq
  have hls : l.size ≤ 200 := Nat.le_trans (size_of_L hcl (cut_le (L s)).1) hs
  have hrs : r.size ≤ 200 := Nat.le_trans (size_of_L hcr (cut_le (L s)).2) hs
  clear hco hcl hcr Hp Hq Ho
  go_wp2_with fail
  refine (top_any 201 l _ (by omega) hls).mono ?_
  rintro e w2 ⟨a, rfl, ha, m2, rfl⟩
  clear ha
  go_wp2_with fail
  refine (top_any 201 r _ (by omega) hrs).mono ?_
  rintro e w3 ⟨b, rfl, hb, m3, rfl⟩
  have HT : Hid (∀ x y, ShowR p x → ShowR q y → ShowR (p ++ q ++ [((c.toNat : Int), 0)]) (x.1 ++ c :: wrp (sB b) y.1, 1)) := by
    intro x y hx hy
    obtain ⟨z, hz, hr⟩ := wf_tp (unhide Hr) hb
    obtain rfl := hy.uniq hz
    rw [wrp_brk (x := y) (k := 2) (by rw [rk2, hr])]
    rw [← brk_one (wf_rank (unhide Hl) hx)]
    rcases hc with rfl | rfl
    · exact showR_bin (o := 43) rfl hx hy
    · exact showR_bin (o := 45) rfl hx hy
  clear hb
  go_upto_region 4 with fail
  go_cut [8] from 22 (fun sm wx => sm = .bool (sB b) ∧ wx = w.drewN (m + m2 + m3))
  case first =>
    rcases sgn_cases b with rfl | rfl | rfl | rfl | ⟨h1, h2, h3, h4⟩
    all_goals
      go_wp2_with fail
      go_meet
      exact ⟨by simp [sB, *], rfl⟩
  case rest =>
    obtain ⟨rfl, rfl⟩ := hcut
    go_upto_region 5 with fail
    go_cut [9] from 22 (fun tm wx => tm = .bool (tB b) ∧ wx = w.drewN (m + m2 + m3))
    case first =>
      rcases sgn_cases b with rfl | rfl | rfl | rfl | ⟨h1, h2, h3, h4⟩
      all_goals
        go_wp2_with fail
        go_meet
        exact ⟨by simp [tB, *], rfl⟩
    case rest =>
      obtain ⟨rfl, rfl⟩ := hcut
      obtain ⟨k, hk⟩ : ∃ k, sB b = k := ⟨_, rfl⟩
      rw [hk] at HT ⊢
      have Hih2 := hide (fun (k : Bool) (wx : World) => wrapped_any n (unhide Hih) r k q wx hrs (unhide Hr) hlq)
      have hcv := conv_one c
      clear hk
      rcases hc with rfl | rfl
      all_goals
        go_wp2_with fail
        refine (unhide Hih l p _ hls (unhide Hl) hlp).mono ?_
        rintro e w4 ⟨u, x, rfl, hx, hu, hb4⟩
        have hus := show_size (unhide Hl) hlp hx hu
        have Hx := hide hx
        have Hu := hide hu
        have Hb := hide hb4.undrewN
        clear hx hu hb4
        go_upto_region 16 with fail
        go_region_with (go_at_call 38; refine (unhide Hih2 k _).mono ?_; rintro e w5 ⟨u2, y, rfl, hy, hu2, hus2, hb5⟩; have k0 := fun h => hb5.cell (p := ⟨w4.heap.size, 0, none⟩) h; simp at k0)
        all_goals (go_wp2_with fail)
        all_goals go_ret
        all_goals refine ⟨_, _, rfl, unhide HT x y (unhide Hx) hy, ?_, ?_⟩
        all_goals first
          | (rw [L_append, L_append, unhide Hu, hu2]; simp [L])
          | exact bel_a (unhide Hb) hb5
          | exact bel_b (unhide Hb) hb5

end Go.Proofs.YtdchbenfccofpaaDoor
