/- Walks of the document's answer: wrapped; show at an operand and in brackets. -/
import Derived.Test.YtpcdkhmahbecaaaDoorRefI
namespace Go.Proofs.YtpcdkhmahbecaaaDoor
open Go.RowKit Db

/-- The contract of show, at depth n. -/
def ShowC (n : Nat) : Prop := ∀ (s : ByteArray) (ps : List Pt) (w : World), s.size ≤ 200 → Wf n (L s) ps → ps.length ≤ 200 →
    Calls Tryd.prog 14 #[.string s] w fun e w' => ∃ u : ByteArray, ∃ x : Pc, e = .returned (.string u) ∧ ShowR ps x ∧ L u = x.1 ∧ Below w.heap.size w w'
theorem show_size {n : Nat} {e : List UInt8} {ps : List Pt} {x : Pc} {u : ByteArray} (h : Wf n e ps) (hl : ps.length ≤ 200) (hx : ShowR ps x) (hu : L u = x.1) : u.size ≤ 5000 := by
  rw [size_L, hu]
  have := wf_size h hx
  omega
def wrp (b : Bool) (l : List UInt8) : List UInt8 := if b then 40 :: (l ++ [41]) else l
theorem wrp_brk {x : Pc} {b : Bool} {k : Nat} (h : b = decide (x.2 < k)) : wrp b x.1 = brk x k := by
  subst h; unfold wrp brk
  by_cases h : x.2 < k <;> simp [h]

set_option maxHeartbeats 1000000 in
theorem wrapped_any (n : Nat) (ih : ShowC n) (s : ByteArray) (b : Bool) (ps : List Pt) (w : World) (hs : s.size ≤ 200) (hw : Wf n (L s) ps) (hl : ps.length ≤ 200) :
    Calls Tryd.prog 37 #[.string s, .bool b] w fun e w' => ∃ u : ByteArray, ∃ x : Pc, e = .returned (.string u) ∧ ShowR ps x ∧ L u = wrp b x.1 ∧ u.size ≤ 5002 ∧ Below w.heap.size w w' := by
  have Hih := hide ih
  have Hw := hide hw
  clear ih hw
  go_enter Tryd.func37, Tryd.ntmps37
  go_wp2_with fail
  refine (unhide Hih s ps _ hs (unhide Hw) hl).mono ?_
  rintro e w1 ⟨u, x, rfl, hx, hu, hb⟩
  have hus := show_size (unhide Hw) hl hx hu
  have Hx := hide hx
  have Hu := hide hu
  have Hb := hide hb
  clear hx hu hb
  cases b with
  | true =>
    go_wp2_with fail
    go_ret
    refine ⟨_, x, rfl, unhide Hx, ?_, ?_, unhide Hb⟩
    · rw [L_append, L_append, unhide Hu]; rfl
    · rw [size_L, L_append, L_append, List.length_append, List.length_append, L_length u]
      show 1 + u.size + 1 ≤ _
      omega
  | false =>
    go_wp2_with fail
    go_ret
    exact ⟨u, x, rfl, unhide Hx, unhide Hu, by omega, unhide Hb⟩

end Go.Proofs.YtpcdkhmahbecaaaDoor
