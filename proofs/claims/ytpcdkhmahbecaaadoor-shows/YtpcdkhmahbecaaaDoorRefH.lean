/- Walks of the document's answer: top, trimmed, operand; the plain form, purely. -/
import Derived.Test.YtpcdkhmahbecaaaDoorRefE
import Derived.Test.YtpcdkhmahbecaaaDoorShA
import Derived.Test.YtpcdkhmahbecaaaDoorShB
namespace Db
open Go

/-- The sign that is worked out last, within brackets that stand round all of it. -/
inductive Tp : List UInt8 → Int → Prop
  | stop {l : List UInt8} (h : ¬ (cut l).1 = 40) : Tp l (cut l).1
  | into {l : List UInt8} {o : Int} (h : (cut l).1 = 40) (k : Tp (cut l).2.2 o) : Tp l o
theorem cut_par_lt (l : List UInt8) (h : (cut l).1 = 40) : (cut l).2.2.length < l.length := by
  unfold cut at h ⊢
  split
  · have := cutAt_lt l
    show (l.drop _).length < _
    rw [List.length_drop]
    omega
  · split
    · show (l.drop 1).length < _
      rw [List.length_drop]
      omega
    · split
      · show ((l.drop 1).take _).length < _
        rw [List.length_take, List.length_drop]
        omega
      · rename_i h1 h2 h3
        rw [if_neg h1, if_neg h2, if_neg h3] at h
        cases h
theorem wf_tp {n : Nat} : ∀ {e : List UInt8} {ps : List Pt} {o : Int}, Wf n e ps → Tp e o → ∃ x, ShowR ps x ∧ x.2 = rkO o := by
  induction n with
  | zero => intro e ps o h; exact absurd h (by simp [Wf])
  | succ n ih =>
    intro e ps o h ht
    rcases h with ⟨h1, h⟩ | ⟨h1, h2⟩ | ⟨h1, p, h2, rfl⟩ | ⟨h1, p, r, h2, h3, rfl⟩
    · obtain ⟨p, rfl, hp⟩ := opnd_opd h
      refine ⟨_, showR_leaf hp, ?_⟩
      cases ht with
      | stop _ => rw [h1]; rfl
      | into h _ => rw [h1] at h; cases h
    · cases ht with
      | stop h => exact absurd h1 h
      | into _ k => exact ih h2 k
    · obtain ⟨x, hx⟩ := wf_show h2
      refine ⟨_, showR_neg hx, ?_⟩
      cases ht with
      | stop _ => rw [h1]; rfl
      | into h _ => rw [h1] at h; cases h
    · obtain ⟨x, hx⟩ := wf_show h2
      obtain ⟨y, hy⟩ := wf_show h3
      refine ⟨_, showR_bin h1 hx hy, ?_⟩
      cases ht with
      | stop _ => rw [rkO_op h1]
      | into h _ => rw [h] at h1; cases h1
theorem wf_size {n : Nat} : ∀ {e : List UInt8} {ps : List Pt} {x : Pc}, Wf n e ps → ShowR ps x → x.1.length ≤ 25 * ps.length := by
  induction n with
  | zero => intro e ps x h; exact absurd h (by simp [Wf])
  | succ n ih =>
    intro e ps x h hx
    rcases h with ⟨h1, h⟩ | ⟨h1, h2⟩ | ⟨h1, p, h2, rfl⟩ | ⟨h1, p, r, h2, h3, rfl⟩
    · obtain ⟨p, rfl, hp⟩ := opnd_opd h
      rw [hx.uniq (showR_leaf hp), (opnd_word h).1]
      have : e.length ≤ 18 := by
        rcases h with ⟨_, h, _⟩ | ⟨c, ds, rfl, _, _, h, _⟩
        · exact h
        · rcases h with h | h <;> simp <;> omega
      have htl : ∀ l : List UInt8, (trm l).length ≤ l.length := by
        intro l
        induction l with
        | nil => simp [trm]
        | cons c t ih =>
          cases t with
          | nil => simp [trm]
          | cons d r =>
            unfold trm
            split
            · exact Nat.le_trans ih (by simp)
            · exact Nat.le_refl _
      have h3 := htl e
      have h4 := htl (e.drop 1)
      simp at h4
      split
      · simp; omega
      · simp; omega
    · exact ih h2 hx
    · obtain ⟨y, hy⟩ := wf_show h2
      rw [hx.uniq (showR_neg hy)]
      have := ih h2 hy
      have hb : (brk y 3).length ≤ y.1.length + 2 := by unfold brk; split <;> simp
      simp
      omega
    · obtain ⟨y, hy⟩ := wf_show h2
      obtain ⟨z, hz⟩ := wf_show h3
      rw [hx.uniq (showR_bin h1 hy hz)]
      have h5 := ih h2 hy
      have h6 := ih h3 hz
      have hb : (brk y (rkS (cut e).1)).length ≤ y.1.length + 2 := by unfold brk; split <;> simp
      have hc : (brk z (rkS (cut e).1 + 1)).length ≤ z.1.length + 2 := by unfold brk; split <;> simp
      simp
      omega
end Db
namespace Go.Proofs.YtpcdkhmahbecaaaDoor
open Go.RowKit Db

set_option maxHeartbeats 1000000 in
theorem top_any (n : Nat) : ∀ (s : ByteArray) (w : World), s.size < n → s.size ≤ 200 →
    Calls Tryd.prog 35 #[.string s] w fun e w' => ∃ o, e = .returned (.int .u8 o) ∧ Tp (L s) o ∧ ∃ m, w' = w.drewN m := by
  induction n with
  | zero => intro s w h; omega
  | succ n ih =>
    intro s w hn hs
    have Hih := hide ih
    clear ih
    go_enter Tryd.func35, Tryd.ntmps35
    go_wp2_with fail
    refine (cut_any s _ hs).mono ?_
    rintro e w1 ⟨o, l, r, rfl, ⟨hco, hcl, hcr⟩, m, rfl⟩
    by_cases h40 : o = 40
    · subst h40
      have hrs := cut_par_lt (L s) hco
      rw [← hcr, L_length, L_length] at hrs
      have Ht : Hid (∀ o, Tp (L r) o → Tp (L s) o) := fun o h => .into hco (by rw [← hcr]; exact h)
      clear hco hcl hcr
      go_wp2_with fail
      refine (unhide Hih r _ (by omega) (by omega)).mono ?_
      rintro e w2 ⟨o, rfl, ho, m2, rfl⟩
      have Ho := hide (unhide Ht o ho)
      clear ho
      go_wp2_with fail
      go_ret
      exact ⟨o, rfl, unhide Ho, m + m2, by simp [World.drewN]⟩
    · have n40 : (o == 40) = false := by simpa using h40
      have Ht : Hid (Tp (L s) o) := by show Tp _ _; rw [← hco] at h40 ⊢; exact .stop h40
      clear hco hcl hcr h40
      go_wp2_with fail
      go_ret
      exact ⟨o, rfl, unhide Ht, m, rfl⟩

end Go.Proofs.YtpcdkhmahbecaaaDoor
