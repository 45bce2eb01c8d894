/- Walks of the reader: digits, day, period. -/
import Derived.Test.YtpcdkhmahbecaaaDoorRdA
namespace Go.Proofs.YtpcdkhmahbecaaaDoor
open Go.RowKit Db

/-- Digits that were read: as many as there are, but no more than m. -/
structure Dg (m : Nat) (l ds l' : List UInt8) : Prop where
  eq : l = ds ++ l'
  dig : ∀ c ∈ ds, digB c.toNat = true
  le : ds.length ≤ m
  stop : ds.length = m ∨ digB (hd l') = false

theorem valGo_snoc (l : List UInt8) (c : UInt8) : ∀ n, valGo n (l ++ [c]) = 10 * valGo n l + ((c.toNat : Int) - 48) := by
  induction l with
  | nil => intro n; rfl
  | cons x t ih => intro n; exact ih _
theorem val_snoc (l : List UInt8) (c : UInt8) : val (l ++ [c]) = 10 * val l + ((c.toNat : Int) - 48) := valGo_snoc l c 0
theorem val_lt (l : List UInt8) (h : ∀ c ∈ l, digB c.toNat = true) : val l < 10 ^ l.length := by
  have key : ∀ (l : List UInt8), (∀ c ∈ l, digB c.toNat = true) → ∀ n k : Int, 0 ≤ n → n < k → valGo n l < k * 10 ^ l.length := by
    intro l
    induction l with
    | nil => intro _ n k _ h; simpa [valGo] using h
    | cons c r ih =>
      intro hd n k h0 h
      have hc := hd c (by simp)
      simp [digB] at hc
      have := ih (fun x hx => hd x (by simp [hx])) (10 * n + ((c.toNat : Int) - 48)) (10 * k) (by omega) (by omega)
      have e : (10 * k) * 10 ^ r.length = k * 10 ^ (c :: r).length := by
        rw [List.length_cons, Int.pow_succ]
        rw [Int.mul_comm 10 k, Int.mul_assoc, Int.mul_comm 10]
      rw [← e]
      exact this
  have := key l h 0 1 (by omega) (by omega)
  rw [Int.one_mul] at this
  exact this
theorem pow_le17 (n : Nat) (h : n ≤ 17) : (10 : Int) ^ n ≤ 100000000000000000 := by
  have : ∀ k : Nat, k ≤ 17 → (10 : Int) ^ k ≤ 10 ^ 17 := by
    intro k hk
    obtain ⟨d, hd⟩ := Nat.le.dest hk
    rw [← hd, Int.pow_add]
    have h1 : (1 : Int) ≤ 10 ^ d := by
      clear hd hk
      induction d with
      | zero => simp
      | succ d ih => rw [Int.pow_succ]; omega
    have h2 : (0 : Int) ≤ 10 ^ k := by
      clear hd hk h1
      induction k with
      | zero => simp
      | succ k ih => rw [Int.pow_succ]; omega
    calc (10 : Int) ^ k = 10 ^ k * 1 := by rw [Int.mul_one]
      _ ≤ 10 ^ k * 10 ^ d := Int.mul_le_mul_of_nonneg_left h1 h2
  exact this n h
theorem dg_bound (l : List UInt8) (h : ∀ c ∈ l, digB c.toNat = true) (hl : l.length ≤ 17) : 0 ≤ val l ∧ val l ≤ 99999999999999999 := by
  have h1 := val_pos l h
  have h2 := val_lt l h
  have h3 := pow_le17 l.length hl
  omega

set_option maxHeartbeats 1000000 in
theorem digits_any (b : Nat) (t : ByteArray) (p : Nat) (v : Value) (ps : List Pt) (m : Nat) (w : World) (h : Rd w b t p v ps) (hm : m ≤ 18) :
    Calls Tryd.prog 105 #[.pointer (some ⟨b, 0, none⟩), .int .i64 (m : Int)] w fun e w' => ∃ ds p', e = .returned (.tuple #[.int .i64 (val ds), .bool (decide (0 < ds.length))]) ∧
      Dg m ((L t).drop p) ds ((L t).drop p') ∧ p' = p + ds.length ∧ RdR b t v w w' p' v ps := by
  have H := hide h
  have hsz := h.sz
  clear h
  go_enter Tryd.func105, Tryd.ntmps105
  go_wp2_with fail
  go_loopg [6, 7] (t.size - p) (fun mm n c wr => ∃ ds k, k = p + ds.length ∧ k ≤ t.size ∧ mm = t.size - k ∧ n = .int .i64 (val ds) ∧ c = .int .i64 (ds.length : Int) ∧ ds.length ≤ m ∧ Hid (RdR b t v w wr k v ps) ∧ Hid ((L t).drop p = ds ++ (L t).drop k) ∧ Hid (∀ c ∈ ds, digB c.toNat = true))
  case atStart => exact ⟨[], p, rfl, (unhide H).le, rfl, rfl, rfl, Nat.zero_le _, RdR.refl (unhide H), rfl, by intro c hc; cases hc⟩
  case round =>
    obtain ⟨ds, k, hk, hkz, rfl, rfl, rfl, hdm, Hr, Hx, Hd⟩ := hrel
    have c0 := (unhide Hr).rd.c0
    have c1 := (unhide Hr).rd.c1
    have z1 := (unhide Hr).rd.z1
    have Hk := hide hk
    clear hk
    by_cases hlm : ds.length < m
    · have d0 : decide ((ds.length : Int) < (m : Int)) = true := by simp; omega
      by_cases hlt : k < t.size
      · have d1 : decide ((k : Int) < (t.size : Int)) = true := by simp; omega
        by_cases hdig : digB (t[k].toNat : Int) = true
        · have hdd := hdig
          simp [digB] at hdd
          obtain ⟨hd1, hd2⟩ := hdd
          obtain ⟨hv0, hv1⟩ := dg_bound ds (unhide Hd) (by omega)
          have Hdig := hide hdig
          clear hdig
          go_wp2_with fail
          go_quiet (fail)
          go_wp2_with fail
          go_quiet (fail)
          go_wp2_with fail
          go_roundg (t.size - (k + 1))
          case measure => omega
          case rel =>
            refine ⟨ds ++ [t[k]], k + 1, ?_, by omega, rfl, ?_, ?_, by simp; omega, ?_, ?_, ?_⟩
            · have := unhide Hk; simp; omega
            · rw [val_snoc]; congr 1; omega
            · simp
            · have h0 := fun n => ((unhide Hr).draws n).move (a' := k + 1) (by omega) (by have := (unhide Hr).rd.cnt; omega)
              show RdR _ _ _ _ _ _ _ _
              simpa using h0 _
            · show _ = _
              rw [unhide Hx, L_drop t k hlt]; simp
            · intro c hc
              simp at hc
              rcases hc with hc | rfl
              · exact unhide Hd c hc
              · exact unhide Hdig
        · have hnd : digB (t[k].toNat : Int) = false := by simpa using hdig
          have Hst : Hid (digB (hd ((L t).drop k)) = false) := by show _ = _; rw [hd_drop t k hlt]; exact hnd
          have hcs : (t[k].toNat : Int) < 48 ∨ 57 < (t[k].toNat : Int) := by simp [digB] at hnd; omega
          clear hdig hnd
          rcases hcs with hcs | hcs
          all_goals
            go_wp2_with fail
            go_quiet (fail)
            go_wp2_with fail
            go_quiet (fail)
            go_wp2_with fail
            go_ret2
            exact ⟨ds, k, rfl, ⟨unhide Hx, unhide Hd, hdm, .inr (unhide Hst)⟩, unhide Hk, (unhide Hr).draws _⟩
      · have d1 : decide ((k : Int) < (t.size : Int)) = false := by simp; omega
        have Hst : Hid (digB (hd ((L t).drop k)) = false) := by show _ = _; rw [hd_end t k (by omega)]; rfl
        go_wp2_with fail
        go_quiet (fail)
        go_wp2_with fail
        go_ret2
        exact ⟨ds, k, rfl, ⟨unhide Hx, unhide Hd, hdm, .inr (unhide Hst)⟩, unhide Hk, (unhide Hr).draws _⟩
    · have d0 : decide ((ds.length : Int) < (m : Int)) = false := by simp; omega
      go_wp2_with fail
      go_quiet (fail)
      go_wp2_with fail
      go_ret2
      exact ⟨ds, k, rfl, ⟨unhide Hx, unhide Hd, hdm, .inl (by omega)⟩, unhide Hk, (unhide Hr).draws _⟩

set_option maxHeartbeats 1000000 in
theorem day_any (b : Nat) (t : ByteArray) (p : Nat) (v : Value) (ps : List Pt) (w : World) (h : Rd w b t p v ps) :
    Calls Tryd.prog 96 #[.pointer (some ⟨b, 0, none⟩)] w fun e w' => ∃ x ds p1 p', e = .returned (.tuple #[.int .i64 (val ds), .bool (decide (0 < ds.length))]) ∧
      Skp t p p1 x ∧ Dg 3 ((L t).drop p1) ds ((L t).drop p') ∧ p' = p1 + ds.length ∧ RdR b t v w w' p' v ps := by
  have H := hide h
  clear h
  go_enter Tryd.func96, Tryd.ntmps96
  go_wp2_with fail
  refine (skipBlanks_any b t p v ps _ (unhide H)).mono ?_
  rintro e w1 ⟨rfl, p1, x, hp, hr, hx, hb, hn⟩
  have Hr := hide hr
  have Hs : Hid (Skp t p p1 x) := ⟨hp, hx, hb, hn⟩
  clear hr hx hb hn hp
  go_wp2_with fail
  refine (digits_any b t p1 v ps 3 _ (unhide Hr).rd (by omega)).mono ?_
  rintro e w2 ⟨ds, p', rfl, hd, hpe, hr2⟩
  have Hd := hide hd
  have Hpe := hide hpe
  have Hr2 := hide ((unhide Hr).trans hr2)
  clear hd hpe hr2
  go_wp2_with fail
  go_ret2
  exact ⟨x, ds, p1, p', rfl, unhide Hs, unhide Hd, unhide Hpe, unhide Hr2⟩

end Go.Proofs.YtpcdkhmahbecaaaDoor
