/- Walks of the check: kinds. -/
import Derived.Test.YtpcdkhmahbecaaaDoorChA
import Derived.Test.YtpcdkhmahbecaaaDoorCoreF
import Derived.WalkSmall
namespace Go.Proofs.YtpcdkhmahbecaaaDoor
open Go.RowKit Db

theorem retB {a b : Bool} (h : a = b) : Ending.returned (.bool a) = .returned (.bool b) := by rw [h]

set_option maxRecDepth 100000 in
set_option maxHeartbeats 1000000 in
theorem isOperand_any (s n : Int) (w : World) :
    Calls Tryd.prog 50 #[.agg #[.int .u8 s, .int .i64 n]] w fun e w' => e = .returned (.bool (opdB s)) ∧ Below w.heap.size w w' := by
  by_cases h1 : s = 48
  · subst h1
    go_enter Tryd.func50, Tryd.ntmps50
    go_wp2_with fail
    go_ret
    exact ⟨rfl, (Below.refl _ _).alloc (Nat.le_refl _) _⟩
  by_cases h2 : s = 64
  · subst h2
    go_enter Tryd.func50, Tryd.ntmps50
    go_wp2_with fail
    go_ret
    exact ⟨rfl, (Below.refl _ _).alloc (Nat.le_refl _) _⟩
  by_cases h3 : s = 33
  · subst h3
    go_enter Tryd.func50, Tryd.ntmps50
    go_wp2_with fail
    go_ret
    exact ⟨rfl, (Below.refl _ _).alloc (Nat.le_refl _) _⟩
  by_cases h4 : s = 35
  · subst h4
    go_enter Tryd.func50, Tryd.ntmps50
    go_wp2_with fail
    go_ret
    exact ⟨rfl, (Below.refl _ _).alloc (Nat.le_refl _) _⟩
  by_cases h5 : s = 36
  · subst h5
    go_enter Tryd.func50, Tryd.ntmps50
    go_wp2_with fail
    go_ret
    exact ⟨rfl, (Below.refl _ _).alloc (Nat.le_refl _) _⟩
  by_cases h6 : s = 60
  · subst h6
    go_enter Tryd.func50, Tryd.ntmps50
    go_wp2_with fail
    go_ret
    exact ⟨rfl, (Below.refl _ _).alloc (Nat.le_refl _) _⟩
  have Hs : Hid (opdB s = false) := by show _ = _; simp [opdB, selB, oldB, h1, h2, h3, h4, h5, h6]
  have n1 : (s == 48) = false := by simpa using h1
  have n2 : (s == 64) = false := by simpa using h2
  have n3 : (s == 33) = false := by simpa using h3
  have n4 : (s == 35) = false := by simpa using h4
  have n5 : (s == 36) = false := by simpa using h5
  have n6 : (s == 60) = false := by simpa using h6
  clear h1 h2 h3 h4 h5 h6
  go_enter Tryd.func50, Tryd.ntmps50
  go_wp2_with fail
  go_ret
  exact ⟨retB (unhide Hs).symm, (Below.refl _ _).alloc (Nat.le_refl _) _⟩

set_option maxRecDepth 100000 in
set_option maxHeartbeats 1000000 in
theorem joinKinds_any (o l r : Int) (w : World) (ho : opB o = true) (hl : l = 0 ∨ l = 1) (hr : r = 0 ∨ r = 1) :
    Calls Tryd.prog 80 #[.int .u8 o, .int .i64 l, .int .i64 r] w fun e w' => e = .returned (.tuple #[.int .i64 (jk o l r).1, .bool (jk o l r).2]) ∧ w' = w := by
  simp [opB] at ho
  rcases ho with ((rfl | rfl) | rfl) | rfl <;> rcases hl with rfl | rfl <;> rcases hr with rfl | rfl
  all_goals
    go_enter Tryd.func80, Tryd.ntmps80
    go_wp2
    go_ret2
    exact ⟨rfl, rfl⟩

set_option maxRecDepth 100000 in
set_option maxHeartbeats 1000000 in
theorem operandKind_any (s n : Int) (v : Value) (ks : List Int) (B : Nat) (w : World) (hown : w.ownsRow B 112 1 v ks.length (ks.map (.int .i64))) (hks : ∀ x ∈ ks, x = 0 ∨ x = 1)
    (hn : oldB s = true → 0 ≤ n ∧ n.toNat < ks.length) :
    Calls Tryd.prog 79 #[.agg #[.int .u8 s, .int .i64 n], v] w fun e w' => ∃ k, e = .returned (.int .i64 k) ∧ (k = 0 ∨ k = 1) ∧ leafK (ks.map toR) (s, n) = toR k ∧ Below w.heap.size w w' := by
  have hml := ownsRow_len hown
  unfold maxLen at hml
  obtain ⟨ao, cap, rfl⟩ := ownsRow_form hown
  by_cases h1 : s = 64
  · subst h1
    go_enter Tryd.func79, Tryd.ntmps79
    go_wp2_with fail
    go_ret
    exact ⟨1, rfl, .inr rfl, rfl, (Below.refl _ _).alloc (Nat.le_refl _) _⟩
  by_cases h2 : s = 33
  · subst h2
    go_enter Tryd.func79, Tryd.ntmps79
    go_wp2_with fail
    go_ret
    exact ⟨1, rfl, .inr rfl, rfl, (Below.refl _ _).alloc (Nat.le_refl _) _⟩
  have n1 : (s == 64) = false := by simpa using h1
  have n2 : (s == 33) = false := by simpa using h2
  clear h1 h2
  cases ho : oldB s with
  | true =>
    obtain ⟨hn0, hnl⟩ := hn ho
    obtain ⟨m, rfl⟩ := Int.eq_ofNat_of_zero_le hn0
    rw [Int.toNat_natCast] at hnl
    obtain ⟨x, hx⟩ : ∃ x, ks[m]? = some x := ⟨ks[m], List.getElem?_eq_getElem hnl⟩
    have hx01 := hks x (List.mem_of_getElem? hx)
    obtain ⟨g, _, e1, hg, hg'⟩ := ownsRow_some hown (by omega)
    simp only [Value.slice.injEq, true_and] at e1
    obtain ⟨rfl, rfl⟩ := e1
    have c1 := ownsRow_cell hown (j := m) (u := .int .i64 x) (by simp [hx])
    have Hk : Hid (leafK (ks.map toR) (s, (m : Int)) = toR x) := by
      show _ = _
      unfold leafK
      simp [n1, n2, ho, hx]
    have hml2 : (m : Int) < (ks.length : Int) := by omega
    clear hown hks hn hx
    go_enter Tryd.func79, Tryd.ntmps79
    go_wp2_with fail
    refine (namesRow_any s m _).mono ?_
    rintro e w1 ⟨rfl, hb1⟩
    rw [ho]
    have f1 := hb1.cell (p := ⟨w.heap.size, 1, none⟩) (by simp)
    simp at f1
    have hb1s := hb1.size
    simp at hb1s
    have Hb : Hid (Below w.heap.size w w1) := ((Below.refl _ _).alloc (Nat.le_refl _) _).then' (by simp) hb1
    have f2 := ((unhide Hb).cell (p := ⟨g, m, none⟩) hg').trans c1
    clear hb1
    go_wp2_with fail
    go_ret
    exact ⟨x, rfl, hx01, unhide Hk, unhide Hb⟩
  | false =>
    have Hk : Hid (leafK (ks.map toR) (s, n) = toR 0) := by
      show _ = _
      unfold leafK
      simp [n1, n2, ho, toR]
    clear hown hks hn
    go_enter Tryd.func79, Tryd.ntmps79
    go_wp2_with fail
    refine (namesRow_any s n _).mono ?_
    rintro e w1 ⟨rfl, hb1⟩
    rw [ho]
    have Hb : Hid (Below w.heap.size w w1) := ((Below.refl _ _).alloc (Nat.le_refl _) _).then' (by simp) hb1
    clear hb1
    go_wp2_with fail
    go_ret
    exact ⟨0, rfl, .inl rfl, unhide Hk, unhide Hb⟩

end Go.Proofs.YtpcdkhmahbecaaaDoor
