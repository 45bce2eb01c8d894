/- Walks of the document's answer: show at an operand and in brackets. -/
import Derived.Test.YtpcdkhmahbecaaaDoorRefJ
import Derived.Deep.DeepCutAuto
import Derived.Deep.RegionWith
namespace Go.Proofs.YtpcdkhmahbecaaaDoor
open Go.RowKit Db

def sB (b : Int) : Bool := b == 43 || b == 45
def tB (b : Int) : Bool := b == 42 || b == 47
theorem sgn_cases (b : Int) : b = 43 ∨ b = 45 ∨ b = 42 ∨ b = 47 ∨ ((b == 43) = false ∧ (b == 45) = false ∧ (b == 42) = false ∧ (b == 47) = false) := by
  by_cases h1 : b = 43
  · exact .inl h1
  by_cases h2 : b = 45
  · exact .inr (.inl h2)
  by_cases h3 : b = 42
  · exact .inr (.inr (.inl h3))
  by_cases h4 : b = 47
  · exact .inr (.inr (.inr (.inl h4)))
  exact .inr (.inr (.inr (.inr ⟨by simpa using h1, by simpa using h2, by simpa using h3, by simpa using h4⟩)))
theorem rk3 (b : Int) : (sB b || tB b) = decide (rkO b < 3) := by
  rcases sgn_cases b with rfl | rfl | rfl | rfl | ⟨h1, h2, h3, h4⟩
  · rfl
  · rfl
  · rfl
  · rfl
  · simp [sB, tB, rkO, h1, h2, h3, h4]
theorem rk2 (b : Int) : sB b = decide (rkO b < 2) := by
  rcases sgn_cases b with rfl | rfl | rfl | rfl | ⟨h1, h2, h3, h4⟩
  · rfl
  · rfl
  · rfl
  · rfl
  · simp [sB, rkO, h1, h2, h3, h4]
theorem tp_zero {l : List UInt8} {o : Int} (hc : (cut l).1 = 0) (h : Tp l o) : o = 0 := by
  cases h with
  | stop _ => exact hc
  | into h _ => rw [hc] at h; cases h
theorem cut_nil : (cut []).1 = 0 := by decide

set_option maxHeartbeats 1000000 in
theorem show_leaf (s : ByteArray) (ps : List Pt) (w : World) (hs : s.size ≤ 200) (hcut : cut (L s) = (0, [], L s)) (hop : Opnd (L s) ps) :
    Calls Tryd.prog 14 #[.string s] w fun e w' => ∃ u : ByteArray, ∃ x : Pc, e = .returned (.string u) ∧ ShowR ps x ∧ L u = x.1 ∧ Below w.heap.size w w' := by
  obtain ⟨p, rfl, hp⟩ := opnd_opd hop
  have Hcut := hide hcut
  have Hop := hide hop
  have Hsh := hide (showR_leaf hp)
  clear hcut hop hp
  go_enter Tryd.func14, Tryd.ntmps14
  go_wp2_with fail
  refine (cut_any s _ hs).mono ?_
  rintro e w1 ⟨o, l, r, rfl, ⟨hco, hcl, hcr⟩, m, rfl⟩
  rw [unhide Hcut] at hco hcl hcr
  obtain rfl : r = s := L_inj hcr
  subst hco
  have hls : l.size ≤ 200 := by rw [size_L, hcl]; simp
  have Hl : Hid (∀ o, Tp (L l) o → o = 0) := by
    show ∀ o, _
    rw [hcl]
    exact fun o h => tp_zero cut_nil h
  have Hr : Hid (∀ o, Tp (L r) o → o = 0) := fun o h => tp_zero (by rw [unhide Hcut]) h
  clear hcl hcr Hcut
  go_wp2_with fail
  refine (top_any 201 l _ (by omega) hls).mono ?_
  rintro e w2 ⟨a, rfl, ha, m2, rfl⟩
  obtain rfl := unhide Hl a ha
  clear ha Hl
  go_wp2_with fail
  refine (top_any 201 r _ (by omega) hs).mono ?_
  rintro e w3 ⟨b, rfl, hb, m3, rfl⟩
  obtain rfl := unhide Hr b hb
  clear hb Hr
  go_wp2_with fail
  refine (refOperand_any r p _ hs (unhide Hop)).mono ?_
  rintro e w4 ⟨u, rfl, hu, m4, rfl⟩
  have Hu := hide hu
  clear hu
  go_wp2_with fail
  go_ret
  exact ⟨u, _, rfl, unhide Hsh, unhide Hu, (Below.refl _ _).drewN _⟩

set_option maxHeartbeats 1000000 in
theorem show_par (n : Nat) (ih : ShowC n) (s : ByteArray) (ps : List Pt) (w : World) (hs : s.size ≤ 200) (ho : (cut (L s)).1 = 40) (hw : Wf n (cut (L s)).2.2 ps) (hl : ps.length ≤ 200) :
    Calls Tryd.prog 14 #[.string s] w fun e w' => ∃ u : ByteArray, ∃ x : Pc, e = .returned (.string u) ∧ ShowR ps x ∧ L u = x.1 ∧ Below w.heap.size w w' := by
  have Hih := hide ih
  have Hw := hide hw
  have Ho := hide ho
  clear ih hw ho
  go_enter Tryd.func14, Tryd.ntmps14
  go_wp2_with fail
  refine (cut_any s _ hs).mono ?_
  rintro e w1 ⟨o, l, r, rfl, ⟨hco, hcl, hcr⟩, m, rfl⟩
  obtain rfl : (40 : Int) = o := (unhide Ho).symm.trans hco
  have Hr : Hid (Wf n (L r) ps) := by show Wf _ _ _; rw [hcr]; exact unhide Hw
  have hls : l.size ≤ 200 := Nat.le_trans (size_of_L hcl (cut_le (L s)).1) hs
  have hrs : r.size ≤ 200 := Nat.le_trans (size_of_L hcr (cut_le (L s)).2) hs
  clear hco hcl hcr Hw Ho
  go_wp2_with fail
  refine (top_any 201 l _ (by omega) hls).mono ?_
  rintro e w2 ⟨a, rfl, ha, m2, rfl⟩
  clear ha
  go_wp2_with fail
  refine (top_any 201 r _ (by omega) hrs).mono ?_
  rintro e w3 ⟨b, rfl, hb, m3, rfl⟩
  clear hb
  rcases sgn_cases b with rfl | rfl | rfl | rfl | ⟨h1, h2, h3, h4⟩
  all_goals
    go_wp2_with fail
    refine (unhide Hih r ps _ hrs (unhide Hr) hl).mono ?_
    rintro e w4 ⟨u, x, rfl, hx, hu, hb4⟩
    have Hx := hide hx
    have Hu := hide hu
    have Hb := hide hb4.undrewN
    clear hx hu hb4
    go_wp2_with fail
    go_ret
    exact ⟨u, x, rfl, unhide Hx, unhide Hu, unhide Hb⟩

set_option maxHeartbeats 1000000 in
theorem show_neg (n : Nat) (ih : ShowC n) (s : ByteArray) (ps : List Pt) (w : World) (hs : s.size ≤ 200) (ho : (cut (L s)).1 = 126) (hw : Wf n (cut (L s)).2.2 ps) (hl : ps.length ≤ 200) :
    Calls Tryd.prog 14 #[.string s] w fun e w' => ∃ u : ByteArray, ∃ x : Pc, e = .returned (.string u) ∧ ShowR (ps ++ [(126, 0)]) x ∧ L u = x.1 ∧ Below w.heap.size w w' := by
  have Hih := hide ih
  have Hw := hide hw
  have Ho := hide ho
  clear ih hw ho
  go_enter Tryd.func14, Tryd.ntmps14
  go_wp2_with fail
  refine (cut_any s _ hs).mono ?_
  rintro e w1 ⟨o, l, r, rfl, ⟨hco, hcl, hcr⟩, m, rfl⟩
  obtain rfl : (126 : Int) = o := (unhide Ho).symm.trans hco
  have Hr : Hid (Wf n (L r) ps) := by show Wf _ _ _; rw [hcr]; exact unhide Hw
  have hls : l.size ≤ 200 := Nat.le_trans (size_of_L hcl (cut_le (L s)).1) hs
  have hrs : r.size ≤ 200 := Nat.le_trans (size_of_L hcr (cut_le (L s)).2) hs
  clear hco hcl hcr Hw Ho
  go_wp2_with fail
  refine (top_any 201 l _ (by omega) hls).mono ?_
  rintro e w2 ⟨a, rfl, ha, m2, rfl⟩
  clear ha
  go_wp2_with fail
  refine (top_any 201 r _ (by omega) hrs).mono ?_
  rintro e w3 ⟨b, rfl, hb, m3, rfl⟩
  have HT : Hid (∀ x, ShowR ps x → ∀ k : Bool, k = (sB b || tB b) → ShowR (ps ++ [(126, 0)]) (45 :: wrp k x.1, 3)) := by
    intro x hx k hk
    obtain ⟨y, hy, hr⟩ := wf_tp (unhide Hr) hb
    obtain rfl := hx.uniq hy
    rw [wrp_brk (x := x) (k := 3) (by rw [hk, rk3, hr])]
    exact showR_neg hx
  clear hb
  rcases sgn_cases b with rfl | rfl | rfl | rfl | ⟨h1, h2, h3, h4⟩
  all_goals
    go_wp2_with fail
    refine (wrapped_any n (unhide Hih) r _ ps _ hrs (unhide Hr) hl).mono ?_
    rintro e w4 ⟨u, x, rfl, hx, hu, hus, hb4⟩
    first
      | have Hx := hide (unhide HT x hx true rfl)
      | have Hx := hide (unhide HT x hx false (by simp [sB, tB, h1, h2, h3, h4]))
    have Hu := hide hu
    have Hb := hide hb4.undrewN
    clear hx hu hb4
    go_wp2_with fail
    go_ret
    exact ⟨_, _, rfl, unhide Hx, by rw [L_append, unhide Hu]; rfl, unhide Hb⟩

end Go.Proofs.YtpcdkhmahbecaaaDoor
