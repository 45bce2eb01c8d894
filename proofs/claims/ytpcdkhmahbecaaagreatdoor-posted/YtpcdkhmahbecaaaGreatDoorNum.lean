/- Numbers as texts: the library's Itoa, and the document's own. -/
import Derived.Test.YtpcdkhmahbecaaaGreatDoorLeaf
import Derived.Test.YtpcdkhmahbecaaaGreatDoorWld
import Derived.Test.YtpcdkhmahbecaaaGreatDoorShelf
import Derived.Lib.ItoaNum
import Derived.Lib.ItoaMem
import Derived.Lib.ItoaLen
import Derived.Lib.AppendIntMem
import Derived.Laws.IdiomStrings
namespace Go.Proofs.YtpcdkhmahbecaaaGreatDoor
open Go.RowKit Db

/-- The library's table of powers reads as it was laid. -/
def Tab (w : World) : Prop := Lib.TabIs Tryz.prog w "internal/strconv.uint64pow10" .u64 Lib.pow10Tab
theorem Tab.below {w w' : World} (h : Tab w) (hb : Below w.heap.size w w') : Tab w' := Lib.tabBelow_of_tabIs h w' hb
theorem below_grow (w : World) (k : Nat) (os : Array Obj) : Below w.heap.size w (Go.Sort.grow (w.drewN k) os) := by
  refine ⟨rfl, rfl, rfl, by simp [Go.Sort.grow, World.drewN], fun j hj => ?_⟩
  show (w.heap ++ os)[j]? = w.heap[j]?
  rw [Array.getElem?_append_left hj]
theorem L_list (l : List UInt8) : L ⟨l.toArray⟩ = l := by simp [L]
theorem size_L (u : ByteArray) : u.size = (L u).length := (L_length u).symm

theorem itoa_any (n : Int) (w : World) (h0 : -9223372036854775808 ≤ n) (h1 : n ≤ 9223372036854775807) (ht : Tab w) :
    Calls Tryz.prog 41 #[.int .i64 n] w fun e w' => ∃ u : ByteArray, e = .returned (.string u) ∧ L u = Lib.itoa n ∧ Below w.heap.size w w' := by
  refine (Tryz.strconv_Itoa n h0 h1 w ht).mono ?_
  rintro e w' ⟨rfl, k, os, rfl⟩
  exact ⟨_, rfl, L_list _, below_grow w k os⟩
theorem itoa_pos {n : Int} (h : 0 ≤ n) : Lib.itoa n = Lib.decDigits n.toNat := by
  unfold Lib.itoa; rw [if_neg (by omega)]
theorem itoa_size {n : Int} (h0 : -9223372036854775808 ≤ n) (h1 : n ≤ 9223372036854775807) {u : ByteArray} (hu : L u = Lib.itoa n) : u.size ≤ 21 := by
  rw [size_L, hu]; exact Lib.itoa_length_le n h0 h1
theorem dec_size {n : Nat} (h1 : n ≤ 9223372036854775807) {u : ByteArray} (hu : L u = Lib.decDigits n) : u.size ≤ 21 :=
  itoa_size (n := (n : Int)) (by omega) (by omega) (by rw [hu, itoa_pos (by omega)]; rfl)

theorem conv_one (c : UInt8) (W : World) (g : Nat) (h : W.cell? ⟨g, 0, none⟩ = some (.int .u8 (c.toNat : Int))) : (convert 127 9 (.slice (some ⟨g, 0, none⟩) 1 1)).run Tryz.prog W = .ok (.string ⟨#[c]⟩) W := by
  have := run_convert_bytes_back (P := Tryz.prog) W 127 9 5 ⟨g, 0, none⟩ 1 [c] Tryz.underlying127 Tryz.underlying5 Tryz.underlying9 (fun j hj => by
    have h0 : j = 0 := by simpa using hj
    subst h0
    exact h)
  exact this

set_option maxRecDepth 100000 in
set_option maxHeartbeats 1000000 in
theorem unsigned_any (k : Nat) : ∀ (u : Nat) (w : World), u < k → u ≤ 9223372036854775807 →
    Calls Tryz.prog 43 #[.int .u64 (u : Int)] w fun e w' => ∃ s : ByteArray, e = .returned (.string s) ∧ L s = Lib.decDigits u ∧ Below w.heap.size w w' := by
  induction k with
  | zero => intro u w h; omega
  | succ k ih =>
    intro u w hk hu
    obtain ⟨c, hc⟩ : ∃ c : UInt8, UInt8.ofNat (48 + u % 10) = c := ⟨_, rfl⟩
    have hcn : 48 + (u : Int) % 10 = (c.toNat : Int) := by
      rw [← hc]
      have : (UInt8.ofNat (48 + u % 10)).toNat = 48 + u % 10 := by simp; omega
      omega
    have hcv : (convert 127 9 (.slice (some ⟨w.heap.size, 0, none⟩) 1 1)).run Tryz.prog (w.alloc (.cells #[.int .u8 (48 + (u : Int) % 10)] 5)) = .ok (.string ⟨#[c]⟩) (w.alloc (.cells #[.int .u8 (48 + (u : Int) % 10)] 5)) :=
      conv_one c _ _ (by rw [hcn]; simp)
    have Hih := hide ih
    have Hc := hide hc
    clear ih hc hcn
    go_enter Tryz.func43, Tryz.ntmps43
    by_cases h10 : u < 10
    · have hd : decide ((u : Int) < 10) = true := by simp; omega
      go_wp2_with fail
      go_ret
      refine ⟨_, rfl, ?_, (Below.refl _ _).alloc (Nat.le_refl _) _⟩
      unfold Lib.decDigits
      rw [dif_pos h10, ← unhide Hc, Nat.mod_eq_of_lt h10]
      rfl
    · have hd : decide ((u : Int) < 10) = false := by simp; omega
      go_wp2_with fail
      rw [show (u : Int) / 10 = ((u / 10 : Nat) : Int) by omega]
      refine (unhide Hih (u / 10) _ (by omega) (by omega)).mono ?_
      rintro e w1 ⟨s, rfl, hs, hb⟩
      have hszz : s.size ≤ 21 := dec_size (by omega) hs
      have Hs := hide hs
      have Hb := hide hb
      clear hs hb
      go_wp2_with fail
      go_ret
      refine ⟨_, rfl, ?_, ?_⟩
      · rw [L_append, unhide Hs]
        conv => rhs; unfold Lib.decDigits
        rw [dif_neg h10, ← unhide Hc]
        rfl
      · exact ((Below.refl _ _).alloc (Nat.le_refl _) _).then' (by simp) (unhide Hb)

set_option maxRecDepth 100000 in
set_option maxHeartbeats 1000000 in
theorem mag_neg (n : Nat) (w : World) (h1 : 1 ≤ n) (h : n ≤ 9223372036854775807) :
    Calls Tryz.prog 42 #[.int .i64 (-(n : Int))] w fun e w' => e = .returned (.int .u64 (n : Int)) ∧ w' = w := by
  have hd : decide (-(n : Int) < 0) = true := by simp; omega
  have hw1 : IntKind.u64.wrap (-(n : Int)) = 18446744073709551616 - (n : Int) := by unfold IntKind.wrap; simp [IntKind.bits, IntKind.signed]; omega
  have hw2 : IntKind.u64.wrap (-(18446744073709551616 - (n : Int))) = (n : Int) := by unfold IntKind.wrap; simp [IntKind.bits, IntKind.signed]; omega
  go_enter Tryz.func42, Tryz.ntmps42
  go_wp2_with fail
  go_ret
  exact ⟨rfl, rfl⟩

set_option maxHeartbeats 1000000 in
theorem number10_any (n : Int) (w : World) (h0 : -9223372036854775807 ≤ n) (h1 : n ≤ 9223372036854775807) :
    Calls Tryz.prog 24 #[.int .i64 n] w fun e w' => ∃ s : ByteArray, e = .returned (.string s) ∧ L s = Lib.itoa n ∧ Below w.heap.size w w' := by
  by_cases hn : n < 0
  · obtain ⟨k, hk⟩ : ∃ k : Nat, n = -(k : Int) := ⟨n.natAbs, by omega⟩
    subst hk
    have hd : decide (-(k : Int) < 0) = true := by simp; omega
    have Hm := hide (mag_neg k w (by omega) (by omega))
    have Hit : Hid (Lib.itoa (-(k : Int)) = 45 :: Lib.decDigits k) := by
      show _ = _
      unfold Lib.itoa
      rw [if_pos hn, show (-(k : Int)).natAbs = k by omega]
    go_enter Tryz.func24, Tryz.ntmps24
    go_wp2_with fail
    refine (unhide Hm).mono ?_
    rintro e w1 ⟨rfl, rfl⟩
    go_wp2_with fail
    refine (unsigned_any (k + 1) k _ (by omega) (by omega)).mono ?_
    rintro e w2 ⟨s, rfl, hs, hb⟩
    have hszz : s.size ≤ 21 := dec_size (by omega) hs
    have Hs := hide hs
    have Hb := hide hb
    clear hs hb
    go_wp2_with fail
    go_ret
    exact ⟨_, rfl, by rw [L_append, unhide Hs, unhide Hit]; rfl, unhide Hb⟩
  · obtain ⟨k, rfl⟩ : ∃ k : Nat, n = (k : Int) := ⟨n.toNat, by omega⟩
    have hd : decide ((k : Int) < 0) = false := by simp
    go_enter Tryz.func24, Tryz.ntmps24
    go_wp2_with fail
    refine (unsigned_any (k + 1) k _ (by omega) (by omega)).mono ?_
    rintro e w1 ⟨s, rfl, hs, hb⟩
    have Hs := hide hs
    have Hb := hide hb
    clear hs hb
    go_wp2_with fail
    go_ret
    exact ⟨s, rfl, by rw [unhide Hs, itoa_pos (by omega)]; rfl, unhide Hb⟩

end Go.Proofs.YtpcdkhmahbecaaaGreatDoor
