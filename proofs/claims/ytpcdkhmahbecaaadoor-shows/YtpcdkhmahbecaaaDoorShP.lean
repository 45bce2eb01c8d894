/- Pure: the plain form of a whole report. -/
import Derived.Test.YtpcdkhmahbecaaaDoorShA
import Derived.Test.YtpcdkhmahbecaaaDoorRdB
namespace Go.Proofs.YtpcdkhmahbecaaaDoor
open Go.RowKit Db

def jn (sep : UInt8) : List (List UInt8) → List UInt8
  | [] => []
  | x :: r => x ++ r.flatMap (fun y => sep :: y)
theorem jn_one {sep : UInt8} {l : List (List UInt8)} {x : List UInt8} (h : l[0]? = some x) : jn sep (l.take 1) = x := by
  cases l with
  | nil => simp at h
  | cons y r => simp at h; subst h; simp [jn]
theorem jn_more {sep : UInt8} {l : List (List UInt8)} {i : Nat} {x : List UInt8} (hi : 0 < i) (h : l[i]? = some x) : jn sep (l.take (i + 1)) = jn sep (l.take i) ++ sep :: x := by
  cases l with
  | nil => simp at h
  | cons y r =>
    obtain ⟨k, rfl⟩ : ∃ k, i = k + 1 := ⟨i - 1, by omega⟩
    simp only [List.getElem?_cons_succ] at h
    simp only [List.take_succ_cons, jn]
    rw [List.take_add_one, h]
    simp
def perT (p : List UInt8 × List UInt8) : List UInt8 := Lib.decDigits (val p.1).toNat ++ 45 :: Lib.decDigits (val p.2).toNat
def rowT (ps : List Pt) : List UInt8 := match sEval ps [] with | x :: _ => x.1 | [] => []
theorem rowT_of {ps : List Pt} {x : Pc} (h : ShowR ps x) : rowT ps = x.1 := by
  have := h [] []
  rw [List.append_nil] at this
  unfold rowT
  rw [this]
  simp [sEval]
def shT (pd : List (List UInt8 × List UInt8)) (pss : List (List Pt)) : List UInt8 := jn 44 (pd.map perT) ++ 124 :: jn 59 (pss.map rowT)
theorem outc_small {pd : List (Int × Int)} {pss : List (List Pt)} {er pl : Int} (h : outc pd pss = (er, pl)) (h0 : er = 0) : pd.length ≤ 4 ∧ pss.length ≤ 8 ∧ pl = 0 := by
  subst h0
  unfold outc at h
  split at h
  · simp at h
  · split at h
    · simp at h
    · split at h
      · simp at h
      · split at h
        · simp at h
        · simp at h; omega
theorem splitGo_ne (c : UInt8) (l : List UInt8) : ∀ acc cur, splitGo c acc cur l ≠ [] := by
  induction l with
  | nil => intro acc cur; simp [splitGo]
  | cons x r ih => intro acc cur; unfold splitGo; split <;> exact ih _ _
theorem split_ne (l : List UInt8) (c : UInt8) : split l c ≠ [] := splitGo_ne c l _ _
theorem day_range {d : List UInt8} (h : dayS d) : 0 ≤ val d ∧ val d ≤ 999 := by
  have h1 := val_pos d h.2.2
  have h2 := val_lt d h.2.2
  have h3 : (10 : Int) ^ d.length ≤ 10 ^ 3 := by
    have : d.length = 1 ∨ d.length = 2 ∨ d.length = 3 := by have := h.1; have := h.2.1; omega
    rcases this with h | h | h <;> rw [h] <;> decide
  have : (10 : Int) ^ 3 = 1000 := by decide
  omega
theorem decDigits_small (n : Nat) (h : n ≤ 999) : (Lib.decDigits n).length ≤ 3 := by
  unfold Lib.decDigits
  split
  · simp
  · rw [List.length_append]
    unfold Lib.decDigits
    split
    · simp
    · rw [List.length_append]
      unfold Lib.decDigits
      rw [dif_pos (by omega)]
      simp
theorem perT_small {p : List UInt8 × List UInt8} (h1 : dayS p.1) (h2 : dayS p.2) : (perT p).length ≤ 7 := by
  have a := day_range h1
  have b := day_range h2
  have c := decDigits_small (val p.1).toNat (by omega)
  have d := decDigits_small (val p.2).toNat (by omega)
  unfold perT
  rw [List.length_append, List.length_cons]
  omega

theorem opnd_num {e : List UInt8} {ps : List Pt} (h : Opnd e ps) : ∀ p ∈ ps, -9223372036854775808 ≤ p.2 ∧ p.2 ≤ 9223372036854775807 := by
  have key : ∀ d : List UInt8, d.length ≤ 18 → (∀ c ∈ d, digB c.toNat = true) → -9223372036854775808 ≤ val d ∧ val d ≤ 9223372036854775807 := by
    intro d hd hc
    have h1 := val_pos d hc
    have h2 := val_lt d hc
    have h3 : (10 : Int) ^ d.length ≤ 10 ^ 18 := by
      have : (10 : Nat) ^ d.length ≤ 10 ^ 18 := Nat.pow_le_pow_right (by omega) hd
      exact_mod_cast this
    have : (10 : Int) ^ 18 = 1000000000000000000 := by decide
    omega
  rcases h with ⟨_, hl, hd, rfl⟩ | ⟨c, ds, rfl, _, hd, hk, rfl⟩
  · intro p hp
    simp only [List.mem_singleton] at hp
    subst hp
    exact key e hl hd
  · intro p hp
    simp only [List.mem_singleton] at hp
    subst hp
    exact key ds (by rcases hk with h | h <;> omega) hd
theorem wf_num {n : Nat} : ∀ {e : List UInt8} {ps : List Pt}, Wf n e ps → ∀ p ∈ ps, -9223372036854775808 ≤ p.2 ∧ p.2 ≤ 9223372036854775807 := by
  induction n with
  | zero => intro e ps h; exact absurd h (by simp [Wf])
  | succ n ih =>
    intro e ps h
    rcases h with ⟨_, h⟩ | ⟨_, h⟩ | ⟨_, p, h, rfl⟩ | ⟨_, p, q, h, k, rfl⟩
    · exact opnd_num h
    · exact ih h
    · intro x hx
      rcases List.mem_append.1 hx with hx | hx
      · exact ih h x hx
      · simp only [List.mem_singleton] at hx
        subst hx
        exact ⟨by simp, by simp⟩
    · intro x hx
      rcases List.mem_append.1 hx with hx | hx
      · rcases List.mem_append.1 hx with hx | hx
        · exact ih h x hx
        · exact ih k x hx
      · simp only [List.mem_singleton] at hx
        subst hx
        exact ⟨by simp, by simp⟩

end Go.Proofs.YtpcdkhmahbecaaaDoor
