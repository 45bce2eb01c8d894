/- Own texts of the theorem in YtdchbenfccofpaaGreatDoorWAlY, part 24. -/
import Derived.Test.YtdchbenfccofpaaGreatDoorJ23
set_option maxRecDepth 100000
set_option maxHeartbeats 8000000
namespace Go.Proofs.YtdchbenfccofpaaGreatDoor
open Go.RowKit Db
theorem show_prod (n : Nat) (ih : ShowC n) (s : ByteArray) (c : UInt8) (p q : List Pt) (w : World) (hs : s.size ≤ 200) (hc : c = 42 ∨ c = 47) (ho : (cut (L s)).1 = (c.toNat : Int)) (hp : Wf n (cut (L s)).2.1 p) (hq : Wf n (cut (L s)).2.2 q) (hlp : p.length ≤ 200) (hlq : q.length ≤ 200) :
  Calls Tryz.prog 126 #[.string s] w fun e w' => ∃ u : ByteArray, ∃ x : Pc, e = .returned (.string u) ∧ ShowR (p ++ q ++ [((c.toNat : Int), 0)]) x ∧ L u = x.1 ∧ Below w.heap.size w w' := by
 have Hih := hI ih
 have Hp := hI hp
 have Hq := hI hq
 have Ho := hI ho
 clear ih hp hq ho
 go_enter Tryz.func126, Tryz.ntmps126
 go_wp2_with fail
 refine (cut_any s _ hs).mono ?_
 rintro e w1 ⟨o, l, r, rfl, ⟨hco, hcl, hcr⟩, m, rfl⟩
 obtain rfl : (c.toNat : Int) = o := Ho.u.symm.trans hco
 have Hl : Hid (Wf n (L l) p) := by show Wf _ _ _; rw [hcl]; exact Hp.u
 have Hr : Hid (Wf n (L r) q) := by show Wf _ _ _; rw [hcr]; exact Hq.u
 have hls : l.size ≤ 200 := Nat.le_trans (size_of_L hcl (cut_le (L s)).1) hs
 have hrs : r.size ≤ 200 := Nat.le_trans (size_of_L hcr (cut_le (L s)).2) hs
 clear hco hcl hcr Hp Hq Ho
 go_wp2_with fail
 refine (top_any 201 l _ (by omega) hls).mono ?_
 rintro e w2 ⟨a, rfl, ha, m2, rfl⟩
 have Ha := hI ha
 clear ha
 go_wp2_with fail
 refine (top_any 201 r _ (by omega) hrs).mono ?_
 rintro e w3 ⟨b, rfl, hb, m3, rfl⟩
 have HT : Hid (∀ x y, ShowR p x → ShowR q y → ShowR (p ++ q ++ [((c.toNat : Int), 0)]) (wrp (sB a) x.1 ++ c :: wrp (sB b || tB b) y.1, 2)) := by
  intro x y hx hy
  obtain ⟨z, hz, hr⟩ := wf_tp Hr.u hb
  obtain rfl := hy.uniq hz
  obtain ⟨z, hz, hr2⟩ := wf_tp Hl.u Ha.u
  obtain rfl := hx.uniq hz
  rw [wrp_brk (x := y) (k := 3) (by rw [rk3, hr]), wrp_brk (x := x) (k := 2) (by rw [rk2, hr2])]
  rcases hc with rfl | rfl
  ·exact showR_bin (o := 42) rfl hx hy
  ·exact showR_bin (o := 47) rfl hx hy
 clear hb
 go_upto_region 4 with fail
 go_cut [8] from 22 (fun sm wx => sm = .bool (sB b) ∧ wx = w.drewN (m + m2 + m3))
 case first =>
  rcases sgn_cases b with rfl | rfl | rfl | rfl | ⟨h1, h2, h3, h4⟩
  all_goals
   go_wp2_with fail
   go_meet
   exact ⟨by simp [sB, *], rfl⟩
 case rest =>
  obtain ⟨rfl, rfl⟩ := hcut
  go_upto_region 5 with fail
  go_cut [9] from 22 (fun tm wx => tm = .bool (tB b) ∧ wx = w.drewN (m + m2 + m3))
  case first =>
   rcases sgn_cases b with rfl | rfl | rfl | rfl | ⟨h1, h2, h3, h4⟩
   all_goals
    go_wp2_with fail
    go_meet
    exact ⟨by simp [tB, *], rfl⟩
  case rest =>
   obtain ⟨rfl, rfl⟩ := hcut
   have Hih2 := hI (fun (k : Bool) (wx : World) => wrapped_any n Hih.u r k q wx hrs Hr.u hlq)
   have Hih1 := hI (fun (k : Bool) (wx : World) => wrapped_any n Hih.u l k p wx hls Hl.u hlp)
   have hcv := conv_one c
   obtain ⟨k1, hk1⟩ : ∃ k1, sB b = k1 := ⟨_, rfl⟩
   obtain ⟨k2, hk2⟩ : ∃ k2, tB b = k2 := ⟨_, rfl⟩
   rw [hk1, hk2] at HT ⊢
   clear hk1 hk2
   rcases hc with rfl | rfl
   all_goals
    go_upto_region 17 with fail
    go_cut [11] from 35 (fun v wx => ∃ u : ByteArray, ∃ x : Pc, v = .string u ∧ ShowR p x ∧ L u = wrp (sB a) x.1 ∧ u.size ≤ 5002 ∧ Below w.heap.size w wx)
    case first =>
     rcases sgn_cases a with rfl | rfl | rfl | rfl | ⟨h1, h2, h3, h4⟩
     all_goals
      go_wp2_with fail
      refine (Hih1.u _ _).mono ?_
      rintro e w4 ⟨u, x, rfl, hx, hu, hus, hb4⟩
      have Hx := hI hx
      have Hu := hI hu
      have Hb := hI hb4.undrewN
      clear hx hu hb4
      go_wp2_with fail
      go_meet
      refine ⟨u, x, rfl, Hx.u, ?_, hus, Hb.u⟩
      first
       | exact Hu.u
       | (have := Hu.u; simpa [sB, h1, h2, h3, h4] using this)
    case rest =>
     obtain ⟨u, x, rfl, hx, hu, hus, hb4⟩ := hcut
     have Hx := hI hx
     have Hu := hI hu
     have Hb := hI hb4
     clear hx hu hb4
     cases k1 <;> cases k2
     all_goals
      go_upto_region 18 with fail
      first | (go_region_with (first | (go_at_call 170; refine (Hih2.u _ _).mono ?_; rintro e w5 ⟨u2, y, rfl, hy, hu2, hus2, hb5⟩; have k0 := fun h => hb5.cell (p := ⟨wc.heap.size, 0, none⟩) h; simp at k0))) | fail
      all_goals (go_wp2_with fail)
      all_goals go_ret
      all_goals refine ⟨_, _, rfl, HT.u x y Hx.u hy, ?_, ?_⟩
      all_goals first
       | (rw [L_append, L_append, Hu.u, hu2]; simp [L])
       | exact bel_a Hb.u hb5
       | exact bel_b Hb.u hb5
end Go.Proofs.YtdchbenfccofpaaGreatDoor
