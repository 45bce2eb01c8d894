/- Walks of the document's answer: binary, final, cut. -/
import Derived.Test.YtpcdkhmahbecaaaDoorRefA
import Derived.Deep.Draws
namespace Go.Proofs.YtpcdkhmahbecaaaDoor
open Go.RowKit Db

/-- The byte ahead of place i. -/
def prv (s : ByteArray) (i : Nat) : Int := if h : 0 < i ∧ i - 1 < s.size then ((s[i - 1]'h.2).toNat : Int) else -1
theorem prv_zero (s : ByteArray) : prv s 0 = -1 := by simp [prv]
theorem prv_succ (s : ByteArray) (i : Nat) (h : i < s.size) : prv s (i + 1) = (s[i].toNat : Int) := by simp [prv, h]

set_option maxHeartbeats 400000 in
theorem binary_any (s : ByteArray) (i : Nat) (w : World) (hs : s.size ≤ 200) (hi : i < s.size) :
    Calls Tryd.prog 86 #[.string s, .int .i64 (i : Int)] w fun e w' => e = .returned (.bool (binB (prv s i) (s[i].toNat : Int))) ∧ w' = w := by
  by_cases ho : opB (s[i].toNat : Int) = true
  · by_cases h0 : i = 0
    · subst h0
      have Hp := hide (prv_zero s)
      go_enter Tryd.func86, Tryd.ntmps86
      go_wp2_with (go_at_call 85; refine (operation_any _ _).mono ?_; rintro e w' ⟨rfl, rfl⟩)
      go_ret
      exact ⟨by rw [unhide Hp]; simp [binB, digB], rfl⟩
    · obtain ⟨j, rfl⟩ : ∃ j, i = j + 1 := ⟨i - 1, by omega⟩
      have Hp := hide (prv_succ s j (by omega))
      have h0' : (((j + 1 : Nat) : Int) == 0) = false := by rw [beq_eq_false_iff_ne]; omega
      clear h0
      by_cases hd : digB (s[j].toNat : Int) = true
      all_goals
        go_enter Tryd.func86, Tryd.ntmps86
        go_wp2_with (first
          | (go_at_call 85; refine (operation_any _ _).mono ?_; rintro e w' ⟨rfl, rfl⟩)
          | (go_at_call 63; refine (digit_any _ _).mono ?_; rintro e w' ⟨rfl, rfl⟩))
        go_ret
        exact ⟨by rw [unhide Hp]; simp [binB, hd, ho], rfl⟩
  · go_enter Tryd.func86, Tryd.ntmps86
    go_wp2_with (go_at_call 85; refine (operation_any _ _).mono ?_; rintro e w' ⟨rfl, rfl⟩)
    go_ret
    exact ⟨by simp [binB, ho], rfl⟩


theorem fin_step (s : ByteArray) (a b : Int) (j : Nat) (h : j < s.size) (k at_ : Int) :
    finGo a b (prv s j) k at_ j ((L s).drop j) = finGo a b (prv s (j + 1)) (dep k (s[j].toNat : Int)) (hit a b (prv s j) (dep k (s[j].toNat : Int)) at_ j (s[j].toNat : Int)) ((j + 1 : Nat) : Int) ((L s).drop (j + 1)) := by
  rw [L_drop s j h, prv_succ s j h]; rfl
theorem bin_not (p c : Int) (h : c = 40 ∨ c = 41) : binB p c = false := by rcases h with rfl | rfl <;> simp [binB, opB]
theorem hit_not (a b p k at_ i c : Int) (h : binB p c = false) : hit a b p k at_ i c = at_ := by simp [hit, h]
theorem hit_deep (a b p k at_ i c : Int) (h : (k == 0) = false) : hit a b p k at_ i c = at_ := by simp [hit, h]
theorem hit_other (a b p k at_ i c : Int) (h : (c == a) = false) (h2 : (c == b) = false) : hit a b p k at_ i c = at_ := by simp [hit, h, h2]
theorem hit_yes (a b p k at_ i c : Int) (h : binB p c = true) (h1 : (k == 0) = true) (h2 : (c == a) = true ∨ (c == b) = true) : hit a b p k at_ i c = i := by
  simp only [hit, h, h1]; rcases h2 with h2 | h2 <;> simp [h2]
theorem dep_open (k c : Int) (h : (c == 40) = true) : dep k c = k + 1 := by simp only [dep, h]; rfl
theorem dep_shut (k c : Int) (h0 : (c == 40) = false) (h : (c == 41) = true) : dep k c = k - 1 := by simp only [dep, h0, h]; rfl
theorem dep_else (k c : Int) (h0 : (c == 40) = false) (h : (c == 41) = false) : dep k c = k := by simp only [dep, h0, h]; rfl

set_option maxHeartbeats 1000000 in
theorem final_any (s : ByteArray) (a b : Int) (w : World) (hs : s.size ≤ 200) :
    Calls Tryd.prog 62 #[.string s, .int .u8 a, .int .u8 b] w fun e w' => e = .returned (.int .i64 (fin (L s) a b)) ∧ w' = w := by
  go_enter Tryd.func62, Tryd.ntmps62
  go_wp2
  go_loop [7, 8, 9] (fun o t i => ∃ j : Nat, ∃ k at_ : Int, j ≤ s.size ∧ i = .int .i64 j ∧ o = .int .i64 k ∧ t = .int .i64 at_ ∧ -j ≤ k ∧ k ≤ j ∧ Hid (finGo a b (prv s j) k at_ j ((L s).drop j) = fin (L s) a b)) (fun _ _ i => s.size - (intOf i).toNat)
  case atStart => exact ⟨0, 0, -1, Nat.zero_le _, rfl, rfl, rfl, by omega, by omega, hide (by rw [prv_zero]; rfl)⟩
  case round =>
    obtain ⟨j, k, at_, hj, rfl, rfl, rfl, hk1, hk2, Hf⟩ := hrel
    by_cases hlt : j < s.size
    · have Hst := hide (fin_step s a b j hlt k at_)
      obtain ⟨bn, hbn⟩ : ∃ bn, binB (prv s j) (s[j].toNat : Int) = bn := ⟨_, rfl⟩
      have Hbn := hide hbn
      clear hbn
      by_cases h40 : ((s[j].toNat : Int) == 40) = true
      · have hb : bn = false := by rw [← unhide Hbn]; exact bin_not _ _ (Or.inl (by simpa using h40))
        subst hb
        go_wp2_with (go_at_call 86; refine (binary_any s j _ hs hlt).mono ?_; rintro e w' ⟨rfl, rfl⟩; rw [unhide Hbn])
        go_round
        case rel => exact ⟨j + 1, _, _, by omega, by go_num, rfl, rfl, by omega, by omega, by show _ = _; rw [← unhide Hf, unhide Hst, dep_open _ _ h40, hit_not _ _ _ _ _ _ _ (unhide Hbn)]⟩
        case measure => simp [intOf]; omega
      · have h40' : ((s[j].toNat : Int) == 40) = false := by simpa using h40
        by_cases h41 : ((s[j].toNat : Int) == 41) = true
        · have hb : bn = false := by rw [← unhide Hbn]; exact bin_not _ _ (Or.inr (by simpa using h41))
          subst hb
          go_wp2_with (go_at_call 86; refine (binary_any s j _ hs hlt).mono ?_; rintro e w' ⟨rfl, rfl⟩; rw [unhide Hbn])
          go_round
          case rel => exact ⟨j + 1, _, _, by omega, by go_num, rfl, rfl, by omega, by omega, by show _ = _; rw [← unhide Hf, unhide Hst, dep_shut _ _ h40' h41, hit_not _ _ _ _ _ _ _ (unhide Hbn)]⟩
          case measure => simp [intOf]; omega
        · have h41' : ((s[j].toNat : Int) == 41) = false := by simpa using h41
          have Hd := hide (dep_else k (s[j].toNat : Int) h40' h41')
          clear h40 h41
          cases bn with
          | false =>
            go_wp2_with (go_at_call 86; refine (binary_any s j _ hs hlt).mono ?_; rintro e w' ⟨rfl, rfl⟩; rw [unhide Hbn])
            go_round
            case rel => exact ⟨j + 1, _, _, by omega, by go_num, rfl, rfl, by omega, by omega, by show _ = _; rw [← unhide Hf, unhide Hst, unhide Hd, hit_not _ _ _ _ _ _ _ (unhide Hbn)]⟩
            case measure => simp [intOf]; omega
          | true =>
            by_cases hk0 : (k == 0) = true
            · by_cases ha : ((s[j].toNat : Int) == a) = true
              · go_wp2_with (go_at_call 86; refine (binary_any s j _ hs hlt).mono ?_; rintro e w' ⟨rfl, rfl⟩; rw [unhide Hbn])
                go_round
                case rel => exact ⟨j + 1, _, _, by omega, by go_num, rfl, rfl, by omega, by omega, by show _ = _; rw [← unhide Hf, unhide Hst, unhide Hd, hit_yes _ _ _ _ _ _ _ (unhide Hbn) hk0 (Or.inl ha)]⟩
                case measure => simp [intOf]; omega
              · have ha' : ((s[j].toNat : Int) == a) = false := by simpa using ha
                clear ha
                by_cases hb : ((s[j].toNat : Int) == b) = true
                · go_wp2_with (go_at_call 86; refine (binary_any s j _ hs hlt).mono ?_; rintro e w' ⟨rfl, rfl⟩; rw [unhide Hbn])
                  go_round
                  case rel => exact ⟨j + 1, _, _, by omega, by go_num, rfl, rfl, by omega, by omega, by show _ = _; rw [← unhide Hf, unhide Hst, unhide Hd, hit_yes _ _ _ _ _ _ _ (unhide Hbn) hk0 (Or.inr hb)]⟩
                  case measure => simp [intOf]; omega
                · have hb' : ((s[j].toNat : Int) == b) = false := by simpa using hb
                  clear hb
                  go_wp2_with (go_at_call 86; refine (binary_any s j _ hs hlt).mono ?_; rintro e w' ⟨rfl, rfl⟩; rw [unhide Hbn])
                  go_round
                  case rel => exact ⟨j + 1, _, _, by omega, by go_num, rfl, rfl, by omega, by omega, by show _ = _; rw [← unhide Hf, unhide Hst, unhide Hd, hit_other _ _ _ _ _ _ _ ha' hb']⟩
                  case measure => simp [intOf]; omega
            · have hk0' : (k == 0) = false := by simpa using hk0
              clear hk0
              go_wp2_with (go_at_call 86; refine (binary_any s j _ hs hlt).mono ?_; rintro e w' ⟨rfl, rfl⟩; rw [unhide Hbn])
              go_round
              case rel => exact ⟨j + 1, _, _, by omega, by go_num, rfl, rfl, by omega, by omega, by show _ = _; rw [← unhide Hf, unhide Hst, unhide Hd, hit_deep _ _ _ _ _ _ _ hk0']⟩
              case measure => simp [intOf]; omega
    · go_wp2
      go_ret
      exact ⟨ret_int (by rw [← unhide Hf, L_drop_end s _ (by omega)]; rfl), rfl⟩

/-- What a cut gives, as values. -/
def CutV (s : ByteArray) (o : Int) (l r : ByteArray) : Prop := (cut (L s)).1 = o ∧ L l = (cut (L s)).2.1 ∧ L r = (cut (L s)).2.2
theorem L_getD (s : ByteArray) (k : Nat) (h : k < s.size) : (L s).getD k 0 = s[k] := by
  rw [List.getD_eq_getElem?_getD, L_get? s k h]; rfl
theorem L_getD0 (s : ByteArray) (h : 0 < s.size) : (L s).getD 0 0 = s[0] := L_getD s 0 h
theorem cutV_at (s : ByteArray) (i : Nat) (h0 : 0 < i) (h : i < s.size) (hc : cutAt (L s) = (i : Int)) : CutV s (s[i].toNat : Int) (s.extract 0 i) (s.extract (i + 1) s.size) := by
  unfold CutV cut
  rw [if_pos (by rw [hc]; omega)]
  refine ⟨?_, ?_, ?_⟩
  · simp only [hc, Int.toNat_natCast]; rw [L_getD s i h]
  · simp only [hc, Int.toNat_natCast]; rw [L_extract]; simp
  · simp only [hc, Int.toNat_natCast]; rw [L_extract]; exact List.take_of_length_le (by rw [List.length_drop, L_length]; omega)
theorem cutV_neg (s : ByteArray) (hn : cutAt (L s) ≤ 0) (h : 1 < s.size) (hc : (s[0].toNat : Int) = 45) : CutV s 126 ⟨#[]⟩ (s.extract 1 s.size) := by
  unfold CutV cut
  rw [if_neg (Int.not_lt.2 hn), if_pos ⟨by rw [L_length]; exact h, by rw [L_getD0 s (by omega)]; exact hc⟩]
  refine ⟨rfl, rfl, ?_⟩
  rw [L_extract]; exact List.take_of_length_le (by rw [List.length_drop, L_length]; omega)
theorem cutV_par (s : ByteArray) (hn : cutAt (L s) ≤ 0) (h : 2 < s.size) (hc : (s[0].toNat : Int) = 40) : CutV s 40 ⟨#[]⟩ (s.extract 1 (s.size - 1)) := by
  unfold CutV cut
  rw [if_neg (Int.not_lt.2 hn), if_neg (by rintro ⟨_, h2⟩; rw [L_getD0 s (by omega)] at h2; omega), if_pos ⟨by rw [L_length]; exact h, by rw [L_getD0 s (by omega)]; exact hc⟩]
  refine ⟨rfl, rfl, ?_⟩
  rw [L_extract, L_length, show s.size - 1 - 1 = s.size - 2 by omega]
theorem cutV_not (s : ByteArray) (hn : cutAt (L s) ≤ 0) (h1 : ¬ (1 < (L s).length ∧ (((L s).getD 0 0).toNat : Int) = 45)) (h2 : ¬ (2 < (L s).length ∧ (((L s).getD 0 0).toNat : Int) = 40)) : CutV s 0 ⟨#[]⟩ s := by
  unfold CutV cut
  rw [if_neg (Int.not_lt.2 hn), if_neg h1, if_neg h2]
  exact ⟨rfl, rfl, rfl⟩

theorem cutV_not' (s : ByteArray) (hn : cutAt (L s) ≤ 0) (h1 : ¬ (1 < s.size ∧ ∃ h : 0 < s.size, (s[0].toNat : Int) = 45)) (h2 : ¬ (2 < s.size ∧ ∃ h : 0 < s.size, (s[0].toNat : Int) = 40)) : CutV s 0 ⟨#[]⟩ s := by
  refine cutV_not s hn ?_ ?_
  · rintro ⟨ha, hb⟩
    rw [L_length] at ha
    rw [L_getD0 s (by omega)] at hb
    exact h1 ⟨ha, by omega, hb⟩
  · rintro ⟨ha, hb⟩
    rw [L_length] at ha
    rw [L_getD0 s (by omega)] at hb
    exact h2 ⟨ha, by omega, hb⟩

set_option maxHeartbeats 1000000 in
theorem cut_any (s : ByteArray) (w : World) (hs : s.size ≤ 200) :
    Calls Tryd.prog 34 #[.string s] w fun e w' => ∃ o : Int, ∃ l r : ByteArray, e = .returned (.tuple #[.int .u8 o, .string l, .string r]) ∧ CutV s o l r ∧ ∃ n, w' = w.drewN n := by
  have hlt := cutAt_lt (L s)
  rw [L_length] at hlt
  obtain ⟨f1, hf1⟩ : ∃ f1, fin (L s) 43 45 = f1 := ⟨_, rfl⟩
  obtain ⟨f2, hf2⟩ : ∃ f2, fin (L s) 42 47 = f2 := ⟨_, rfl⟩
  obtain ⟨i, hi⟩ : ∃ i, cutAt (L s) = i := ⟨_, rfl⟩
  have hi' := hi
  unfold cutAt at hi'
  rw [hf1, hf2] at hi'
  rw [hi] at hlt
  have Hf1 := hide hf1
  have Hf2 := hide hf2
  have Hi := hide hi
  clear hf1 hf2 hi
  by_cases hneg : f1 < 0
  · rw [if_pos hneg] at hi'
    subst hi'
    by_cases hpos : 0 < f2
    · obtain ⟨n, rfl⟩ := Int.eq_ofNat_of_zero_le (show 0 ≤ f2 by omega)
      have hn : n < s.size := by omega
      have hn1 : n + 1 ≤ s.size := by omega
      go_enter Tryd.func34, Tryd.ntmps34
      go_wp2_with fail
      refine (final_any s 43 45 _ hs).mono ?_
      rintro e w' ⟨rfl, rfl⟩
      rw [unhide Hf1]
      go_wp2_with fail
      refine (final_any s 42 47 _ hs).mono ?_
      rintro e w' ⟨rfl, rfl⟩
      rw [unhide Hf2]
      go_wp2_with fail
      go_quiet (fail)
      go_wp2
      go_ret3
      exact ⟨_, _, _, rfl, cutV_at s n (by omega) hn (unhide Hi), _, rfl⟩
    have Hn : Hid (cutAt (L s) ≤ 0) := by show _ ≤ _; rw [unhide Hi]; omega
    by_cases h1 : 1 < s.size
    · have h0 : 0 < s.size := by omega
      by_cases h45 : ((s[0].toNat : Int) == 45) = true
      · have H45 : Hid ((s[0].toNat : Int) = 45) := by show _ = _; simpa using h45
        go_enter Tryd.func34, Tryd.ntmps34
        go_wp2_with fail
        refine (final_any s 43 45 _ hs).mono ?_
        rintro e w' ⟨rfl, rfl⟩
        rw [unhide Hf1]
        go_wp2_with fail
        refine (final_any s 42 47 _ hs).mono ?_
        rintro e w' ⟨rfl, rfl⟩
        rw [unhide Hf2]
        go_wp2_with fail
        go_quiet (fail)
        go_wp2
        go_ret3
        exact ⟨_, _, _, rfl, cutV_neg s (unhide Hn) h1 (unhide H45), _, rfl⟩
      have h45' : ((s[0].toNat : Int) == 45) = false := by simpa using h45
      have H45 : Hid (¬ (s[0].toNat : Int) = 45) := by show ¬ _; simpa using h45
      clear h45
      by_cases h2 : 2 < s.size
      · by_cases h40 : ((s[0].toNat : Int) == 40) = true
        · have H40 : Hid ((s[0].toNat : Int) = 40) := by show _ = _; simpa using h40
          have ez : ((s.size : Int) - 1) = ((s.size - 1 : Nat) : Int) := by omega
          have Hez := hide ez
          clear ez
          go_enter Tryd.func34, Tryd.ntmps34
          go_wp2_with fail
          refine (final_any s 43 45 _ hs).mono ?_
          rintro e w' ⟨rfl, rfl⟩
          rw [unhide Hf1]
          go_wp2_with fail
          refine (final_any s 42 47 _ hs).mono ?_
          rintro e w' ⟨rfl, rfl⟩
          rw [unhide Hf2]
          go_wp2_with fail
          go_quiet (fail)
          go_wp2
          go_ret3
          exact ⟨_, _, _, rfl, cutV_par s (unhide Hn) h2 (unhide H40), _, rfl⟩
        · have h40' : ((s[0].toNat : Int) == 40) = false := by simpa using h40
          have H40 : Hid (¬ (s[0].toNat : Int) = 40) := by show ¬ _; simpa using h40
          clear h40
          go_enter Tryd.func34, Tryd.ntmps34
          go_wp2_with fail
          refine (final_any s 43 45 _ hs).mono ?_
          rintro e w' ⟨rfl, rfl⟩
          rw [unhide Hf1]
          go_wp2_with fail
          refine (final_any s 42 47 _ hs).mono ?_
          rintro e w' ⟨rfl, rfl⟩
          rw [unhide Hf2]
          go_wp2_with fail
          go_ret3
          exact ⟨_, _, _, rfl, cutV_not' s (unhide Hn) (fun ⟨_, _, h⟩ => unhide H45 h) (fun ⟨_, _, h⟩ => unhide H40 h), 0, rfl⟩
      · 
        go_enter Tryd.func34, Tryd.ntmps34
        go_wp2_with fail
        refine (final_any s 43 45 _ hs).mono ?_
        rintro e w' ⟨rfl, rfl⟩
        rw [unhide Hf1]
        go_wp2_with fail
        refine (final_any s 42 47 _ hs).mono ?_
        rintro e w' ⟨rfl, rfl⟩
        rw [unhide Hf2]
        go_wp2_with fail
        go_ret3
        exact ⟨_, _, _, rfl, cutV_not' s (unhide Hn) (fun ⟨_, _, h⟩ => unhide H45 h) (fun ⟨h, _, _⟩ => by omega), 0, rfl⟩
    · 
      go_enter Tryd.func34, Tryd.ntmps34
      go_wp2_with fail
      refine (final_any s 43 45 _ hs).mono ?_
      rintro e w' ⟨rfl, rfl⟩
      rw [unhide Hf1]
      go_wp2_with fail
      refine (final_any s 42 47 _ hs).mono ?_
      rintro e w' ⟨rfl, rfl⟩
      rw [unhide Hf2]
      go_wp2_with fail
      go_ret3
      exact ⟨_, _, _, rfl, cutV_not' s (unhide Hn) (fun ⟨h, _, _⟩ => by omega) (fun ⟨h, _, _⟩ => by omega), 0, rfl⟩
  · rw [if_neg hneg] at hi'
    subst hi'
    by_cases hpos : 0 < f1
    · obtain ⟨n, rfl⟩ := Int.eq_ofNat_of_zero_le (show 0 ≤ f1 by omega)
      have hn : n < s.size := by omega
      have hn1 : n + 1 ≤ s.size := by omega
      go_enter Tryd.func34, Tryd.ntmps34
      go_wp2_with fail
      refine (final_any s 43 45 _ hs).mono ?_
      rintro e w' ⟨rfl, rfl⟩
      rw [unhide Hf1]
      go_wp2_with fail
      go_quiet (fail)
      go_wp2
      go_ret3
      exact ⟨_, _, _, rfl, cutV_at s n (by omega) hn (unhide Hi), _, rfl⟩
    have Hn : Hid (cutAt (L s) ≤ 0) := by show _ ≤ _; rw [unhide Hi]; omega
    by_cases h1 : 1 < s.size
    · have h0 : 0 < s.size := by omega
      by_cases h45 : ((s[0].toNat : Int) == 45) = true
      · have H45 : Hid ((s[0].toNat : Int) = 45) := by show _ = _; simpa using h45
        go_enter Tryd.func34, Tryd.ntmps34
        go_wp2_with fail
        refine (final_any s 43 45 _ hs).mono ?_
        rintro e w' ⟨rfl, rfl⟩
        rw [unhide Hf1]
        go_wp2_with fail
        go_quiet (fail)
        go_wp2
        go_ret3
        exact ⟨_, _, _, rfl, cutV_neg s (unhide Hn) h1 (unhide H45), _, rfl⟩
      have h45' : ((s[0].toNat : Int) == 45) = false := by simpa using h45
      have H45 : Hid (¬ (s[0].toNat : Int) = 45) := by show ¬ _; simpa using h45
      clear h45
      by_cases h2 : 2 < s.size
      · by_cases h40 : ((s[0].toNat : Int) == 40) = true
        · have H40 : Hid ((s[0].toNat : Int) = 40) := by show _ = _; simpa using h40
          have ez : ((s.size : Int) - 1) = ((s.size - 1 : Nat) : Int) := by omega
          have Hez := hide ez
          clear ez
          go_enter Tryd.func34, Tryd.ntmps34
          go_wp2_with fail
          refine (final_any s 43 45 _ hs).mono ?_
          rintro e w' ⟨rfl, rfl⟩
          rw [unhide Hf1]
          go_wp2_with fail
          go_quiet (fail)
          go_wp2
          go_ret3
          exact ⟨_, _, _, rfl, cutV_par s (unhide Hn) h2 (unhide H40), _, rfl⟩
        · have h40' : ((s[0].toNat : Int) == 40) = false := by simpa using h40
          have H40 : Hid (¬ (s[0].toNat : Int) = 40) := by show ¬ _; simpa using h40
          clear h40
          go_enter Tryd.func34, Tryd.ntmps34
          go_wp2_with fail
          refine (final_any s 43 45 _ hs).mono ?_
          rintro e w' ⟨rfl, rfl⟩
          rw [unhide Hf1]
          go_wp2_with fail
          go_ret3
          exact ⟨_, _, _, rfl, cutV_not' s (unhide Hn) (fun ⟨_, _, h⟩ => unhide H45 h) (fun ⟨_, _, h⟩ => unhide H40 h), 0, rfl⟩
      · 
        go_enter Tryd.func34, Tryd.ntmps34
        go_wp2_with fail
        refine (final_any s 43 45 _ hs).mono ?_
        rintro e w' ⟨rfl, rfl⟩
        rw [unhide Hf1]
        go_wp2_with fail
        go_ret3
        exact ⟨_, _, _, rfl, cutV_not' s (unhide Hn) (fun ⟨_, _, h⟩ => unhide H45 h) (fun ⟨h, _, _⟩ => by omega), 0, rfl⟩
    · 
      go_enter Tryd.func34, Tryd.ntmps34
      go_wp2_with fail
      refine (final_any s 43 45 _ hs).mono ?_
      rintro e w' ⟨rfl, rfl⟩
      rw [unhide Hf1]
      go_wp2_with fail
      go_ret3
      exact ⟨_, _, _, rfl, cutV_not' s (unhide Hn) (fun ⟨h, _, _⟩ => by omega) (fun ⟨h, _, _⟩ => by omega), 0, rfl⟩

end Go.Proofs.YtpcdkhmahbecaaaDoor
