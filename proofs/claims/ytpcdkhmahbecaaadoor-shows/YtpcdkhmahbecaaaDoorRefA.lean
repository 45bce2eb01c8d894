/- Walks of the document's answer: value, bare, split. -/
import Derived.Test.YtpcdkhmahbecaaaDoorLeaf
import Derived.Test.YtpcdkhmahbecaaaDoorCore
namespace Go.Proofs.YtpcdkhmahbecaaaDoor
open Go.RowKit Db

theorem ret_int {k : IntKind} {a b : Int} (h : a = b) : Ending.returned (.int k a) = .returned (.int k b) := by rw [h]

theorem bare_yes (s u : ByteArray) (k : Nat) (h : k < s.size) (hb : ¬ s[k].toNat = 32) (hu : L u = bare ((L s).take k)) :
    L (u ++ s.extract k (k + 1)) = bare ((L s).take (k + 1)) := by
  rw [L_append, L_one s k h, L_take_succ s k h, bare_append, bare_other hb, hu]
theorem bare_no (s u : ByteArray) (k : Nat) (h : k < s.size) (hb : s[k].toNat = 32) (hu : L u = bare ((L s).take k)) :
    L u = bare ((L s).take (k + 1)) := by
  rw [L_take_succ s k h, bare_append, bare_blank hb, hu, List.append_nil]
theorem bare_size (s u : ByteArray) (k : Nat) (hu : L u = bare ((L s).take k)) : u.size ≤ k := by
  rw [← L_length, hu]; exact Nat.le_trans (bare_le _) (List.length_take_le _ _)

set_option maxHeartbeats 400000 in
theorem bare_any (s : ByteArray) (w : World) (hs : s.size ≤ 200) :
    Calls Tryd.prog 58 #[.string s] w fun e w' => ∃ t : ByteArray, e = .returned (.string t) ∧ L t = bare (L s) ∧ w' = w := by
  go_enter Tryd.func58, Tryd.ntmps58
  go_wp2
  go_loop [3, 4] (fun t i => ∃ k : Nat, ∃ u : ByteArray, k ≤ s.size ∧ i = .int .i64 k ∧ t = .string u ∧ Hid (L u = bare ((L s).take k))) (fun _ i => s.size - (intOf i).toNat)
  case atStart => exact ⟨0, _, Nat.zero_le _, rfl, rfl, hide rfl⟩
  case round =>
    obtain ⟨k, u, hk, rfl, rfl, Hu⟩ := hrel
    have hz := bare_size s u k (unhide Hu)
    by_cases hlt : k < s.size
    · by_cases hb : s[k].toNat = 32
      · have hb' : ((s[k].toNat : Int) != 32) = false := by simp; omega
        go_wp2
        go_round
        case rel => exact ⟨k + 1, u, by omega, by go_num, rfl, bare_no s u k hlt hb (unhide Hu)⟩
        case measure => simp [intOf]; omega
      · have hb' : ((s[k].toNat : Int) != 32) = true := by simp; omega
        go_wp2
        go_round
        case rel => exact ⟨k + 1, _, by omega, by go_num, rfl, bare_yes s u k hlt hb (unhide Hu)⟩
        case measure => simp [intOf]; omega
    · go_wp2
      go_ret
      exact ⟨u, rfl, by rw [unhide Hu, L_take_end s k (by omega)], rfl⟩

theorem val_step (s : ByteArray) (k : Nat) (h : k < s.size) (n : Int) : valGo n ((L s).drop k) = valGo (10 * n + ((s[k].toNat : Int) - 48)) ((L s).drop (k + 1)) := by
  rw [L_drop s k h]; rfl
def pow10 (k : Nat) : Int := 10 ^ k
theorem pow10_succ (k : Nat) : pow10 (k + 1) = 10 * pow10 k := by unfold pow10; rw [Int.pow_succ]; omega
theorem pow10_pos (k : Nat) : 1 ≤ pow10 k := by
  induction k with
  | zero => decide
  | succ k ih => rw [pow10_succ]; omega
theorem pow10_le (k : Nat) (h : k ≤ 17) : pow10 k ≤ 100000000000000000 := by
  have : pow10 17 = 100000000000000000 := by decide
  have key : ∀ d j : Nat, j + d = 17 → pow10 j ≤ pow10 17 := by
    intro d
    induction d with
    | zero => intro j hj; rw [show j = 17 by omega]; exact Int.le_refl _
    | succ d ih => intro j hj; have := ih (j + 1) (by omega); rw [pow10_succ] at this; have := pow10_pos j; omega
  have := key (17 - k) k (by omega)
  omega

set_option maxHeartbeats 400000 in
theorem value_any (s : ByteArray) (w : World) (hs : s.size ≤ 18) (hd : ∀ k (h : k < s.size), 48 ≤ s[k].toNat ∧ s[k].toNat ≤ 57) :
    Calls Tryd.prog 59 #[.string s] w fun e w' => e = .returned (.int .i64 (val (L s))) ∧ 0 ≤ val (L s) ∧ val (L s) < pow10 s.size ∧ w' = w := by
  have Hd := hide hd
  clear hd
  go_enter Tryd.func59, Tryd.ntmps59
  go_wp2
  go_loop [3, 4] (fun t i => ∃ k : Nat, ∃ n : Int, k ≤ s.size ∧ i = .int .i64 k ∧ t = .int .i64 n ∧ 0 ≤ n ∧ n < pow10 k ∧ Hid (val (L s) = valGo n ((L s).drop k))) (fun _ i => s.size - (intOf i).toNat)
  case atStart => exact ⟨0, 0, Nat.zero_le _, rfl, rfl, by omega, by decide, hide rfl⟩
  case round =>
    obtain ⟨k, n, hk, rfl, rfl, h0, h1, Hu⟩ := hrel
    by_cases hlt : k < s.size
    · have hdd := unhide Hd k hlt
      have hp := pow10_le k (by omega)
      have hn : n ≤ 99999999999999999 := by omega
      clear hp
      go_wp2
      go_round
      case rel =>
        have hp2 := pow10_succ k
        refine ⟨k + 1, _, by omega, by go_num, rfl, by omega, by omega, ?_⟩
        show val _ = _
        rw [unhide Hu, val_step s k hlt]
      case measure => simp [intOf]; omega
    · go_wp2
      go_ret
      have hk' : k = s.size := by omega
      subst hk'
      have e : val (L s) = n := by rw [unhide Hu, L_drop_end s _ (Nat.le_refl _)]; rfl
      exact ⟨ret_int e.symm, by omega, by omega, rfl⟩


theorem split_step (s : ByteArray) (c : UInt8) (acc : List (List UInt8)) (f k : Nat) (hf : f ≤ k) (h : k < s.size) (hb : ¬ s[k] = c) :
    splitGo c acc (L (s.extract f k)) ((L s).drop k) = splitGo c acc (L (s.extract f (k + 1))) ((L s).drop (k + 1)) := by
  rw [L_drop s k h]
  show (if s[k] = c then _ else _) = _
  rw [if_neg hb]
  congr 1
  rw [L_extract, L_extract, show k + 1 - f = (k - f) + 1 by omega, List.take_succ_eq_append_getElem (by rw [List.length_drop, L_length]; omega)]
  congr 2
  rw [List.getElem_drop]
  simp only [show f + (k - f) = k by omega]
  exact (L_get s k h).symm
theorem split_cut (s : ByteArray) (c : UInt8) (acc : List (List UInt8)) (f k : Nat) (h : k < s.size) (hb : s[k] = c) :
    splitGo c acc (L (s.extract f k)) ((L s).drop k) = splitGo c (acc ++ [L (s.extract f k)]) (L (s.extract (k + 1) (k + 1))) ((L s).drop (k + 1)) := by
  rw [L_drop s k h]
  show (if s[k] = c then _ else _) = _
  rw [if_pos hb, L_extract s (k + 1) (k + 1), Nat.sub_self, List.take_zero]

theorem info_string : (Tryd.prog.info? 9).map (fun i => (i.zero, i.size, i.bytes)) = some (some (.string ⟨#[]⟩), 1, 16) := by kernel_rfl

set_option maxHeartbeats 400000 in
theorem split_any (s : ByteArray) (c : UInt8) (w : World) (hs : s.size ≤ 200) :
    Calls Tryd.prog 57 #[.string s, .int .u8 (c.toNat : Int)] w fun e w' => ∃ v : Value, ∃ ss : List ByteArray, e = .returned v ∧ ss.map L = split (L s) c ∧
      w'.ownsRow w.heap.size 9 1 v ss.length (ss.map Value.string) ∧ Below w.heap.size w w' := by
  obtain ⟨i, hi, hz0, hz1, hz2⟩ := info_parts info_string
  go_enter Tryd.func57, Tryd.ntmps57
  go_wp2
  go_loopw [5, 6, 7] (fun v f i wr => ∃ k fr : Nat, ∃ ss : List ByteArray, fr ≤ k ∧ k ≤ s.size ∧ i = .int .i64 k ∧ f = .int .i64 fr ∧ ss.length ≤ k ∧
      Hid (splitGo c (ss.map L) (L (s.extract fr k)) ((L s).drop k) = split (L s) c) ∧ Hid (wr.ownsRow w.heap.size 9 1 v ss.length (ss.map Value.string)) ∧ Hid (Below w.heap.size w wr)) (fun _ _ i _ => s.size - (intOf i).toNat)
  case atStart => exact ⟨0, 0, [], by omega, by omega, rfl, rfl, by simp, hide (by rw [L_extract]; rfl), hide (World.ownsRow_nil _ _ _ _), hide (Below.refl _ _)⟩
  case round =>
    obtain ⟨k, fr, ss, hfr, hk, rfl, rfl, hss, Hs, Ho, Hb⟩ := hrel
    have hsz := (unhide Hb).size
    by_cases hlt : k < s.size
    · by_cases hc : s[k] = c
      · have hc' : ((s[k].toNat : Int) == (c.toNat : Int)) = true := by rw [hc]; simp
        have HC := hide hc
        clear hc
        go_wp2_with (first
          | (at_builtin; refine wpList_append_own _ rfl _ _ 50 rfl w.heap.size 9 i (.string ⟨#[]⟩) 1 16 Tryd.underlying50 hi hz0 hz1 hz2 rfl (by decide) _ _ _ rfl ((unhide Ho).alloc _) ⟨wr.heap.size, 0, none⟩ 1 1 [.string (s.extract fr k)] rfl rfl (cell_one_new _ _ _) (fun x hx => by simp at hx; subst hx; rfl) (by unfold maxLen; omega) (by omega) (by simp; omega) ?_; intro v' w2 hown2 hgr2 _))
        have Hown := hide hown2
        have Hgr := hide hgr2
        clear hown2 hgr2
        go_wp2
        go_roundw
        case rel =>
          refine ⟨k + 1, k + 1, ss ++ [s.extract fr k], by omega, by omega, by go_num, by go_num, by simp; omega, ?_, ?_, ?_⟩
          · show splitGo _ _ _ _ = _
            rw [← unhide Hs, split_cut s c _ fr k hlt (unhide HC)]; simp
          · show World.ownsRow _ _ _ _ _ _ _
            simpa using unhide Hown
          · exact ((unhide Hb).alloc hsz _).grown (unhide Hgr) (by simp; omega) (fun g hg => ((unhide Ho).lt g hg).1)
        case measure => simp [intOf]; omega
      · have hc' : ((s[k].toNat : Int) == (c.toNat : Int)) = false := by
          rw [beq_eq_false_iff_ne]; intro h; exact hc (UInt8.toNat_inj.1 (by omega))
        go_wp2
        go_roundw
        case rel =>
          refine ⟨k + 1, fr, ss, by omega, by omega, by go_num, rfl, by omega, ?_, Ho, Hb⟩
          show splitGo _ _ _ _ = _
          rw [← unhide Hs, split_step s c _ fr k hfr hlt hc]
        case measure => simp [intOf]; omega
    · have hk' : k = s.size := by omega
      subst hk'
      clear hk hlt
      go_wp2_with (first
          | (at_builtin; refine wpList_append_own _ rfl _ _ 50 rfl w.heap.size 9 i (.string ⟨#[]⟩) 1 16 Tryd.underlying50 hi hz0 hz1 hz2 rfl (by decide) _ _ _ rfl ((unhide Ho).alloc _) ⟨wr.heap.size, 0, none⟩ 1 1 [.string (s.extract fr s.size)] rfl rfl (cell_one_new _ _ _) (fun x hx => by simp at hx; subst hx; rfl) (by unfold maxLen; omega) (by omega) (by simp; omega) ?_; intro v' w2 hown2 hgr2 _))
      have Hown := hide hown2
      have Hgr := hide hgr2
      clear hown2 hgr2
      go_wp2
      go_ret
      refine ⟨v', ss ++ [s.extract fr s.size], rfl, ?_, ?_, ?_⟩
      · rw [← unhide Hs, L_drop_end s _ (Nat.le_refl _)]; simp [splitGo]
      · simpa using unhide Hown
      · exact ((unhide Hb).alloc hsz _).grown (unhide Hgr) (by simp; omega) (fun g hg => ((unhide Ho).lt g hg).1)

end Go.Proofs.YtpcdkhmahbecaaaDoor
