/- Walks of the document's answer: trimmed, operand. -/
import Derived.Test.YtpcdkhmahbecaaaDoorRefH
import Derived.Deep.LoopGhost
namespace Go.Proofs.YtpcdkhmahbecaaaDoor
open Go.RowKit Db

theorem retS {a b : ByteArray} (h : a = b) : Ending.returned (.string a) = .returned (.string b) := by rw [h]
theorem L_of (l : List UInt8) : L ⟨l.toArray⟩ = l := L_list l
theorem L_eq {u : ByteArray} {l : List UInt8} (h : L u = l) : u = ⟨l.toArray⟩ := L_inj (by rw [h, L_list])
theorem trm_le (l : List UInt8) : (trm l).length ≤ l.length := by
  induction l with
  | nil => simp [trm]
  | cons c t ih =>
    cases t with
    | nil => simp [trm]
    | cons d r =>
      unfold trm
      split
      · exact Nat.le_trans ih (by simp)
      · exact Nat.le_refl _
theorem trm_go (u : ByteArray) (h : 1 < u.size) (h0 : (u[0].toNat : Int) = 48) : trm (L (u.extract 1 u.size)) = trm (L u) := by
  have e : L u = u[0] :: (L u).drop 1 := by have := L_drop u 0 (by omega); simpa using this
  rw [L_extract]
  have h1 : ((L u).drop 1).take (u.size - 1) = (L u).drop 1 := List.take_of_length_le (by rw [List.length_drop, L_length]; omega)
  rw [h1]
  conv => rhs; rw [e]
  have e2 := L_drop u 1 h
  rw [e2]
  have h48 : u[0].toNat = 48 := by omega
  rw [trm, if_pos h48]
theorem trm_stop (u : ByteArray) (h : u.size ≤ 1) : trm (L u) = L u := by
  have hl := L_length u
  match hu : L u with
  | [] => rfl
  | [c] => rfl
  | c :: d :: r => rw [hu] at hl; simp at hl; omega
theorem trm_not (u : ByteArray) (h : 1 < u.size) (h0 : ¬ (u[0].toNat : Int) = 48) : trm (L u) = L u := by
  have e : L u = u[0] :: (L u).drop 1 := by have := L_drop u 0 (by omega); simpa using this
  have e2 := L_drop u 1 h
  rw [e2] at e
  rw [e, trm, if_neg (by omega)]

set_option maxHeartbeats 1000000 in
theorem trimmed_any (s : ByteArray) (w : World) :
    Calls Tryd.prog 64 #[.string s] w fun e w' => e = .returned (.string ⟨(trm (L s)).toArray⟩) ∧ w' = w := by
  go_enter Tryd.func64, Tryd.ntmps64
  go_wp2_with fail
  go_loopg [0] s.size (fun m v wr => ∃ u : ByteArray, m = u.size ∧ v = .string u ∧ u.size ≤ s.size ∧ Hid (trm (L u) = trm (L s)) ∧ wr = w)
  case atStart => exact ⟨s, rfl, rfl, Nat.le_refl _, rfl, rfl⟩
  case round =>
    obtain ⟨u, rfl, rfl, hus, Hu, rfl⟩ := hrel
    by_cases h1 : 1 < u.size
    · by_cases h0 : (u[0].toNat : Int) = 48
      · have Hg := hide ((trm_go u h1 h0).trans (unhide Hu))
        have b0 : ((u[0].toNat : Int) == 48) = true := by simpa using h0
        have hz : (u.extract 1 u.size).size = u.size - 1 := by simp
        clear h0
        go_wp2_with fail
        go_roundg (u.size - 1)
        case measure => omega
        case rel => exact ⟨u.extract 1 u.size, hz.symm, rfl, by omega, unhide Hg, rfl⟩
      · have Hg := hide ((trm_not u h1 h0).symm.trans (unhide Hu))
        have b0 : ((u[0].toNat : Int) == 48) = false := by simpa using h0
        clear h0
        go_wp2_with fail
        go_ret
        exact ⟨retS (L_eq (unhide Hg)), rfl⟩
    · have Hg := hide ((trm_stop u (by omega)).symm.trans (unhide Hu))
      have i1 : ¬ (1 : Int) < (u.size : Int) := by omega
      have i2 : decide ((1 : Int) < (u.size : Int)) = false := decide_eq_false i1
      go_wp2_with fail
      go_ret
      exact ⟨retS (L_eq (unhide Hg)), rfl⟩

set_option maxHeartbeats 1000000 in
theorem refOperand_any (s : ByteArray) (p : Pt) (w : World) (hs : s.size ≤ 200) (ho : Opnd (L s) [p]) :
    Calls Tryd.prog 36 #[.string s] w fun e w' => ∃ u : ByteArray, e = .returned (.string u) ∧ L u = wordP p ∧ ∃ m, w' = w.drewN m := by
  obtain ⟨h1, h2⟩ := opnd_word ho
  rw [L_length] at h2
  have hh : hd (L s) = (s[0].toNat : Int) := by have := L_drop s 0 (by omega); simp at this; rw [this]; rfl
  rw [hh] at h1
  have H1 := hide h1
  clear h1 hh ho
  go_enter Tryd.func36, Tryd.ntmps36
  go_wp2_with fail
  refine (digit_any (s[0].toNat : Int) _).mono ?_
  rintro e w1 ⟨rfl, rfl⟩
  cases hd : digB (s[0].toNat : Int) with
  | true =>
    have H2 : Hid (wordP p = trm (L s)) := by have := unhide H1; rw [hd] at this; exact this
    clear H1 hd
    go_wp2_with fail
    refine (trimmed_any s _).mono ?_
    rintro e w1 ⟨rfl, rfl⟩
    go_wp2_with fail
    go_ret
    exact ⟨_, rfl, by rw [L_of, unhide H2], 0, rfl⟩
  | false =>
    have H2 : Hid (wordP p = (L s).take 1 ++ trm ((L s).drop 1)) := by have := unhide H1; rw [hd] at this; exact this
    have ht : L (s.extract 1 s.size) = (L s).drop 1 := by rw [L_extract]; exact List.take_of_length_le (by rw [List.length_drop, L_length]; omega)
    have hsz : (s.extract 1 s.size).size ≤ 200 := by simp; omega
    obtain ⟨t, hteq⟩ : ∃ t : ByteArray, t = ⟨(trm (L (s.extract 1 s.size))).toArray⟩ := ⟨_, rfl⟩
    have hcall : ∀ wx, Calls Tryd.prog 64 #[.string (s.extract 1 s.size)] wx fun e w' => e = .returned (.string t) ∧ w' = wx := by
      intro wx; rw [hteq]; exact trimmed_any _ wx
    have hz2 : t.size ≤ 200 := by
      rw [hteq, size_L, L_of]
      refine Nat.le_trans (trm_le _) ?_
      rw [L_length]; exact hsz
    have htL : L t = trm ((L s).drop 1) := by rw [hteq, L_of, ht]
    have Ht := hide htL
    have i1 : (1 : Int) ≤ (s.size : Int) := by omega
    clear H1 hd ht htL hteq
    go_wp2_with fail
    go_quiet ((go_at_call 64; exact Calls.quiet_of_same (hcall _)))
    go_wp2_with fail
    go_ret
    refine ⟨_, rfl, ?_, _, rfl⟩
    rw [L_append, unhide H2, unhide Ht, L_extract]
    rfl

end Go.Proofs.YtpcdkhmahbecaaaDoor
