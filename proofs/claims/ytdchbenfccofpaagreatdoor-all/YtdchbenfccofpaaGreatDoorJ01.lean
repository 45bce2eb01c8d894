/- Own texts of the theorem in YtdchbenfccofpaaGreatDoorWAlY, part 01. -/
import Derived.KernelRfl
import Derived.Test.YtdchbenfccofpaaGreatDoorRows
import Derived.WalkKit
import Derived.WalkSpells
import Derived.WalkLawsBesides
import Derived.Deep.QuietTactic
import Derived.BigQuiet
import Derived.Deep.Draws
import Derived.Maps.AppendAt
import Derived.WalkSmall
import Derived.Laws.IdiomStrings
import Derived.Deep.LoopGhost
import Derived.Test.YtdchbenfccofpaaGreatDoorShelf
import Derived.Lib.ItoaNum
import Derived.Lib.ItoaMem
import Derived.Lib.ItoaLen
import Derived.Lib.AppendIntMem
set_option maxRecDepth 100000
set_option maxHeartbeats 2000000
namespace Db
def L (s : ByteArray) : List UInt8 := s.data.toList
theorem L_length (s : ByteArray) : (L s).length = s.size := by unfold L; rw [Array.length_toList]; rfl
theorem L_get (s : ByteArray) (k : Nat) (h : k < s.size) : (L s)[k]'(by rw [L_length]; exact h) = s[k] := by simp [L]; rfl
theorem L_get? (s : ByteArray) (k : Nat) (h : k < s.size) : (L s)[k]? = some s[k] := by
 rw [List.getElem?_eq_getElem (by rw [L_length]; exact h), L_get]
theorem L_drop (s : ByteArray) (k : Nat) (h : k < s.size) : (L s).drop k = s[k] :: (L s).drop (k + 1) := by
 rw [List.drop_eq_getElem_cons (by rw [L_length]; exact h), L_get]
theorem L_drop_end (s : ByteArray) (k : Nat) (h : s.size ≤ k) : (L s).drop k = [] := List.drop_eq_nil_of_le (by rw [L_length]; exact h)
theorem L_append (s t : ByteArray) : L (s ++ t) = L s ++ L t := by simp [L]
theorem L_extract (s : ByteArray) (a b : Nat) : L (s.extract a b) = ((L s).drop a).take (b - a) := by
 simp [L, ByteArray.data_extract, List.extract_eq_take_drop]
theorem L_inj {s t : ByteArray} (h : L s = L t) : s = t := by
 cases s; cases t; simp [L] at h; rw [h]
theorem L_take_succ (s : ByteArray) (k : Nat) (h : k < s.size) : (L s).take (k + 1) = (L s).take k ++ [s[k]] := by
 rw [List.take_succ_eq_append_getElem (by rw [L_length]; exact h), L_get]
theorem L_take_end (s : ByteArray) (k : Nat) (h : s.size ≤ k) : (L s).take k = L s := List.take_of_length_le (by rw [L_length]; exact h)
theorem L_one (s : ByteArray) (k : Nat) (h : k < s.size) : L (s.extract k (k + 1)) = [s[k]] := by
 rw [L_extract, L_drop s k h]; simp
def valGo (n : Int) : List UInt8 → Int
 | [] => n
 | c :: r => valGo (10 * n + ((c.toNat : Int) - 48)) r
def val (l : List UInt8) : Int := valGo 0 l
def bare (l : List UInt8) : List UInt8 := l.filter fun c => c.toNat != 32
theorem bare_append (a b : List UInt8) : bare (a ++ b) = bare a ++ bare b := by simp [bare]
theorem bare_blank {c : UInt8} (h : c.toNat = 32) : bare [c] = [] := by simp [bare, h]
theorem bare_other {c : UInt8} (h : ¬ c.toNat = 32) : bare [c] = [c] := by simp [bare, h]
theorem bare_le (a : List UInt8) : (bare a).length ≤ a.length := List.length_filter_le _ _
def splitGo (c : UInt8) (acc : List (List UInt8)) (cur : List UInt8) : List UInt8 → List (List UInt8)
 | [] => acc ++ [cur]
 | x :: r => if x = c then splitGo c (acc ++ [cur]) [] r else splitGo c acc (cur ++ [x]) r
def split (l : List UInt8) (c : UInt8) : List (List UInt8) := splitGo c [] [] l
def digB (c : Int) : Bool := decide (48 ≤ c) && decide (c ≤ 57)
def selB (c : Int) : Bool := c == 64 || c == 33 || c == 35
def oldB (c : Int) : Bool := c == 36 || c == 60
def opB (c : Int) : Bool := c == 43 || c == 45 || c == 42 || c == 47
def binB (p c : Int) : Bool := opB c && (digB p || p == 41)
def dep (k c : Int) : Int := if c == 40 then k + 1 else if c == 41 then k - 1 else k
def hit (a b p k at_ i c : Int) : Int := if binB p c && k == 0 && (c == a || c == b) then i else at_
def finGo (a b : Int) (p k at_ i : Int) : List UInt8 → Int
 | [] => at_
 | c :: r => finGo a b c.toNat (dep k c.toNat) (hit a b p (dep k c.toNat) at_ i c.toNat) (i + 1) r
def fin (l : List UInt8) (a b : Int) : Int := finGo a b (-1) 0 (-1) 0 l
theorem finGo_lt (a b : Int) (l : List UInt8) : ∀ p k at_ i : Int, at_ < i → finGo a b p k at_ i l < i + l.length := by
 induction l with
 | nil => intro p k at_ i h; simpa [finGo] using h
 | cons c r ih =>
  intro p k at_ i h
  have := ih c.toNat (dep k c.toNat) (hit a b p (dep k c.toNat) at_ i c.toNat) (i + 1) (by unfold hit; split <;> omega)
  simp only [finGo, List.length_cons]
  omega
theorem fin_lt (l : List UInt8) (a b : Int) : fin l a b < l.length := by
 have := finGo_lt a b l (-1) 0 (-1) 0 (by omega)
 unfold fin; omega
def cutAt (l : List UInt8) : Int := if fin l 43 45 < 0 then fin l 42 47 else fin l 43 45
theorem cutAt_lt (l : List UInt8) : cutAt l < l.length := by
 unfold cutAt; split
 ·exact fin_lt _ _ _
 ·exact fin_lt _ _ _
def cut (l : List UInt8) : Int × List UInt8 × List UInt8 :=
 if 0 < cutAt l then (((l.getD (cutAt l).toNat 0).toNat : Int), l.take (cutAt l).toNat, l.drop ((cutAt l).toNat + 1))
 else if 1 < l.length ∧ ((l.getD 0 0).toNat : Int) = 45 then (126, [], l.drop 1)
 else if 2 < l.length ∧ ((l.getD 0 0).toNat : Int) = 40 then (40, [], (l.drop 1).take (l.length - 2))
 else (0, [], l)
def daysS (a d o c : Int) : Option (Int × Int × Int) :=
 if digB c && (a == 0 || a == 3) then some (a + 1, 1, o)
 else if digB c && (a == 1 || a == 4) && decide (d < 3) then some (a, d + 1, o)
 else if c == 32 && (a == 1 || a == 4) then some (a + 1, d, o)
 else if c == 32 then some (a, d, o)
 else if c == 45 && (a == 1 || a == 2) then some (3, d, o)
 else if c == 44 && (a == 4 || a == 5) then some (0, d, o)
 else if c == 124 && (a == 4 || a == 5) then some (6, d, o)
 else none
def factS (a d o c : Int) : Option (Int × Int × Int) :=
 if a == 6 && (c == 32 || c == 45) then some (a, d, o)
 else if a == 6 && c == 40 then some (a, d, o + 1)
 else if a == 6 && digB c then some (7, 1, o)
 else if a == 6 && selB c then some (8, d, o)
 else if a == 6 && oldB c then some (9, d, o)
 else if a == 8 && digB c then some (10, d, o)
 else if a == 9 && digB c then some (11, d, o)
 else none
def onwS (a d o c : Int) : Option (Int × Int × Int) :=
 if a == 7 && digB c && decide (d < 18) then some (a, d + 1, o)
 else if (a == 10 && digB c) || c == 32 then some (11, d, o)
 else if opB c || (c == 59 && o == 0) then some (6, d, o)
 else if c == 41 && decide (0 < o) then some (11, d, o - 1)
 else none
def stepS (a d o c : Int) : Option (Int × Int × Int) :=
 if a < 6 then daysS a d o c else if a == 6 || a == 8 || a == 9 then factS a d o c else onwS a d o c
def plc (a d o i : Int) : List UInt8 → Int
 | [] => if (a == 7 || a == 10 || a == 11) && !decide (0 < o) then -1 else i
 | c :: r => match stepS a d o c.toNat with
  | none => i
  | some (a', d', o') => plc a' d' o' (i + 1) r
def okS (a d o : Int) (n : Nat) : Prop := 0 ≤ a ∧ a ≤ 11 ∧ 0 ≤ d ∧ d ≤ 18 ∧ 0 ≤ o ∧ o ≤ n
end Db
namespace Go.Proofs.YtdchbenfccofpaaGreatDoor
open Go.RowKit Db
theorem hI {p : Prop} (h : p) : Hid p := h
theorem unhide {p : Prop} (h : Hid p) : p := h
theorem _root_.Go.RowKit.Hid.u {p : Prop} (h : Hid p) : p := h
theorem dgt (c : Int) (w : World) :
  Calls Tryz.prog 158 #[.int .u8 c] w fun e w' => e = .returned (.bool (digB c)) ∧ w' = w := by
 by_cases h1 : 48 ≤ c <;> by_cases h2 : c ≤ 57
 all_goals
  go_enter Tryz.func158, Tryz.ntmps158
  go_wp2
  go_ret
  exact ⟨by simp [digB] <;> omega, rfl⟩
theorem slr (c : Int) (w : World) :
  Calls Tryz.prog 160 #[.int .u8 c] w fun e w' => e = .returned (.bool (selB c)) ∧ w' = w := by
 by_cases h1 : (c == 64) = true <;> by_cases h2 : (c == 33) = true
 all_goals
  go_enter Tryz.func160, Tryz.ntmps160
  go_wp2
  go_ret
  exact ⟨by simp_all [selB], rfl⟩
theorem older_any (c : Int) (w : World) :
  Calls Tryz.prog 155 #[.int .u8 c] w fun e w' => e = .returned (.bool (oldB c)) ∧ w' = w := by
 by_cases h1 : (c == 36) = true
 all_goals
  go_enter Tryz.func155, Tryz.ntmps155
  go_wp2
  go_ret
  exact ⟨by simp_all [oldB], rfl⟩
theorem opr (c : Int) (w : World) :
  Calls Tryz.prog 161 #[.int .u8 c] w fun e w' => e = .returned (.bool (opB c)) ∧ w' = w := by
 by_cases h1 : (c == 43) = true <;> by_cases h2 : (c == 45) = true <;> by_cases h3 : (c == 42) = true
 all_goals
  go_enter Tryz.func161, Tryz.ntmps161
  go_wp2
  go_ret
  exact ⟨by simp_all [opB], rfl⟩
end Go.Proofs.YtdchbenfccofpaaGreatDoor
namespace Go.RowKit
def Blk (w : World) (b : Nat) (cs : Array Value) (T : TypeId) : Prop := w.heap[b]? = some (.cells cs T (0, 0))
theorem Blk.cell {w : World} {b : Nat} {cs : Array Value} {T : TypeId} (h : Blk w b cs T) (i : Nat) : w.cell? ⟨b, i, none⟩ = cs[i]? := by
 unfold Blk at h; simp [World.cell?, h]
theorem Blk.frozen {w : World} {b : Nat} {cs : Array Value} {T : TypeId} (h : Blk w b cs T) (i : Nat) : w.frozen? ⟨b, i, none⟩ = false := by
 unfold Blk at h; simp [World.frozen?, h]
theorem Blk.lt {w : World} {b : Nat} {cs : Array Value} {T : TypeId} (h : Blk w b cs T) : b < w.heap.size := (Array.getElem?_eq_some_iff.1 h).1
theorem Blk.set {w : World} {b : Nat} {cs : Array Value} {T : TypeId} (h : Blk w b cs T) (i : Nat) (v : Value) : Blk (w.setCell ⟨b, i, none⟩ v) b (cs.setIfInBounds i v) T := by
 unfold Blk at h ⊢; simp [World.setCell, Array.getElem?_modify, h]
theorem Blk.setOther {w : World} {b : Nat} {cs : Array Value} {T : TypeId} (h : Blk w b cs T) (a : Addr) (v : Value) (hn : b ≠ a.block) : Blk (w.setCell a v) b cs T := by
 unfold Blk at h ⊢; rw [Below.heap_setCell _ _ _ _ hn]; exact h
theorem Blk.alloc {w : World} {b : Nat} {cs : Array Value} {T : TypeId} (h : Blk w b cs T) (o : Obj) : Blk (w.alloc o) b cs T := by
 have hl := h.lt
 unfold Blk at h ⊢; rw [Below.heap_alloc _ _ _ hl]; exact h
theorem Blk.new (w : World) (cs : Array Value) (T : TypeId) : Blk (w.alloc (.cells cs T)) w.heap.size cs T := heap_alloc_new w _
theorem Blk.drewN {w : World} {b : Nat} {cs : Array Value} {T : TypeId} (h : Blk w b cs T) (n : Nat) : Blk (w.drewN n) b cs T := h
theorem Blk.below {w w' : World} {b B : Nat} {cs : Array Value} {T : TypeId} (h : Blk w b cs T) (hb : Below B w w') (hl : b < B) : Blk w' b cs T := by
 unfold Blk at h ⊢; rw [hb.block b hl]; exact h
theorem Blk.kept {w w' : World} {b : Nat} {cs : Array Value} {T : TypeId} (h : Blk w b cs T) (hb : Below w.heap.size w w') : Blk w' b cs T := h.below hb h.lt
theorem Blk.grown {w w' : World} {b : Nat} {cs : Array Value} {T : TypeId} {row : Option Nat} (h : Blk w b cs T) (hg : w.grownBy w' row) (hn : some b ≠ row) : Blk w' b cs T := by
 have hl := h.lt
 unfold Blk at h ⊢; rw [hg.block b hl hn]; exact h
theorem Below.drewN {B : Nat} {a w : World} (h : Below B a w) (n : Nat) : Below B a (w.drewN n) := ⟨h.os, h.tape, h.output, h.size, h.block⟩
theorem Below.undrew {B : Nat} {a w : World} (h : Below B a.drew w) : Below B a w := ⟨h.os, h.tape, h.output, h.size, h.block⟩
theorem Below.undrewN {B n : Nat} {a w : World} (h : Below B (a.drewN n) w) : Below B a w := ⟨h.os, h.tape, h.output, h.size, h.block⟩
theorem Below.then {a b c : World} (h : Below a.heap.size a b) (k : Below b.heap.size b c) : Below a.heap.size a c := h.trans (k.mono h.size)
theorem Below.then' {B : Nat} {a b c : World} (h : Below B a b) (hB : B ≤ b.heap.size) (k : Below b.heap.size b c) : Below B a c := h.trans (k.mono hB)
theorem oBelow {w w' : World} {base : Nat} {e : TypeId} {size : Nat} {v : Value} {n : Nat} {xs : List Value} (h : w.ownsRow base e size v n xs) (hb : Below w.heap.size w w') : w'.ownsRow base e size v n xs := by
 refine ⟨h.1, ?_⟩
 rcases h.2 with hn | ⟨g, cap, cur, rfl, hbg, hgg, rest⟩
 ·exact .inl hn
 ·exact .inr ⟨g, cap, cur, rfl, hbg, by rw [hb.block g (Array.getElem?_eq_some_iff.1 hgg).1]; exact hgg, rest⟩
structure Frm (B : Nat) (X : Nat → Prop) (w w' : World) : Prop where
 os : w'.os = w.os
 tape : w'.tape = w.tape
 output : w'.output = w.output
 size : w.heap.size ≤ w'.heap.size
 block : ∀ k, k < B → ¬ X k → w'.heap[k]? = w.heap[k]?
section
variable {B : Nat} {X : Nat → Prop} {a b c w w' : World}
theorem Frm.refl (B : Nat) (X : Nat → Prop) (w : World) : Frm B X w w := ⟨rfl, rfl, rfl, Nat.le_refl _, fun _ _ _ => rfl⟩
theorem Frm.trans (h : Frm B X a b) (k : Frm B X b c) : Frm B X a c :=
 ⟨k.os.trans h.os, k.tape.trans h.tape, k.output.trans h.output, Nat.le_trans h.size k.size, fun i hi hx => (k.block i hi hx).trans (h.block i hi hx)⟩
theorem Frm.mono {B' : Nat} {Y : Nat → Prop} (h : Frm B X a b) (hB : B' ≤ B) (hX : ∀ k, k < B' → X k → Y k) : Frm B' Y a b :=
 ⟨h.os, h.tape, h.output, h.size, fun k hk hy => h.block k (Nat.lt_of_lt_of_le hk hB) (fun hx => hy (hX k hk hx))⟩
theorem Below.frm (h : Below B a b) : Frm B X a b := ⟨h.os, h.tape, h.output, h.size, fun k hk _ => h.block k hk⟩
theorem Frm.below (h : Frm B X a b) {B' : Nat} (hB : B' ≤ B) (hX : ∀ k, k < B' → ¬ X k) : Below B' a b := ⟨h.os, h.tape, h.output, h.size, fun k hk => h.block k (Nat.lt_of_lt_of_le hk hB) (hX k hk)⟩
theorem Frm.then (h : Frm B X a b) (hB : B ≤ b.heap.size) (k : Below b.heap.size b c) : Frm B X a c := h.trans (k.mono hB).frm
theorem Frm.drewN (h : Frm B X a b) (n : Nat) : Frm B X a (b.drewN n) := ⟨h.os, h.tape, h.output, h.size, h.block⟩
theorem Frm.drew (h : Frm B X a b) : Frm B X a b.drew := ⟨h.os, h.tape, h.output, h.size, h.block⟩
theorem Frm.undrewN {n : Nat} (h : Frm B X (a.drewN n) b) : Frm B X a b := ⟨h.os, h.tape, h.output, h.size, h.block⟩
theorem Frm.alloc (h : Frm B X a b) (hB : B ≤ b.heap.size) (o : Obj) : Frm B X a (b.alloc o) :=
 h.trans ⟨rfl, rfl, rfl, by simp, fun k hk _ => Below.heap_alloc _ _ _ (by omega)⟩
theorem Frm.setCell (h : Frm B X a b) {p : Addr} (hp : B ≤ p.block ∨ X p.block) (u : Value) : Frm B X a (b.setCell p u) :=
 h.trans ⟨rfl, rfl, rfl, by simp [World.setCell], fun k hk hx => Below.heap_setCell _ _ _ _ (by rintro rfl; rcases hp with hp | hp; omega; exact hx hp)⟩
theorem Frm.grown {row : Option Nat} (h : Frm B X a b) (hg : b.grownBy c row) (hB : B ≤ b.heap.size) (hr : ∀ k, row = some k → B ≤ k ∨ X k) : Frm B X a c :=
 h.trans ⟨hg.os, hg.tape, hg.output, hg.size, fun k hk hx => hg.block k (by omega) (fun e => by rcases hr k e.symm with h | h; omega; exact hx h)⟩
theorem Blk.frm {n : Nat} {cs : Array Value} {T : TypeId} (h : Blk w n cs T) (hf : Frm B X w w') (hn : n < B) (hx : ¬ X n) : Blk w' n cs T := by
 unfold Blk at h ⊢; rw [hf.block n hn hx]; exact h
theorem oFrm {base : Nat} {e : TypeId} {size : Nat} {v : Value} {n : Nat} {xs : List Value} (h : w.ownsRow base e size v n xs) (hf : Frm B X w w') (hv : ∀ k, v.ownBlock = some k → k < B ∧ ¬ X k) : w'.ownsRow base e size v n xs := by
 refine ⟨h.1, ?_⟩
 rcases h.2 with hn | ⟨g, cap, cur, rfl, hbg, hgg, rest⟩
 ·exact .inl hn
 ·exact .inr ⟨g, cap, cur, rfl, hbg, by rw [hf.block g (hv g rfl).1 (hv g rfl).2]; exact hgg, rest⟩
theorem oBase {base base' : Nat} {e : TypeId} {size : Nat} {v : Value} {n : Nat} {xs : List Value} (h : w.ownsRow base e size v n xs) (hv : ∀ k, v.ownBlock = some k → base' ≤ k) : w.ownsRow base' e size v n xs := by
 refine ⟨h.1, ?_⟩
 rcases h.2 with hn | ⟨g, cap, cur, rfl, hbg, hgg, rest⟩
 ·exact .inl hn
 ·exact .inr ⟨g, cap, cur, rfl, hv g rfl, hgg, rest⟩
theorem oForm {base : Nat} {e : TypeId} {size : Nat} {v : Value} {n : Nat} {xs : List Value} (h : w.ownsRow base e size v n xs) : ∃ ao cap, v = .slice ao n cap := by
 rcases h.2 with ⟨rfl, rfl⟩ | ⟨g, cap, cur, rfl, _⟩
 ·exact ⟨none, 0, rfl⟩
 ·exact ⟨_, cap, rfl⟩
theorem oSome {base : Nat} {e : TypeId} {size : Nat} {v : Value} {n : Nat} {xs : List Value} (h : w.ownsRow base e size v n xs) (hn : 0 < n) : ∃ g cap, v = .slice (some ⟨g, 0, none⟩) n cap ∧ base ≤ g ∧ g < w.heap.size := by
 rcases h.2 with ⟨rfl, rfl⟩ | ⟨g, cap, cur, rfl, hb, hg, _⟩
 ·omega
 ·exact ⟨g, cap, rfl, hb, (Array.getElem?_eq_some_iff.1 hg).1⟩
theorem oCell {base : Nat} {e : TypeId} {size g n cap : Nat} {xs : List Value} (h : w.ownsRow base e size (.slice (some ⟨g, 0, none⟩) n cap) n xs) {j : Nat} {u : Value} (hu : xs[j]? = some u) : w.cell? ⟨g, j, none⟩ = some u := by
 have := h.cells (g := g) rfl j u hu
 rw [Addr.add_lit] at this
 simpa using this
theorem oFrozen {base : Nat} {e : TypeId} {size g n cap : Nat} {xs : List Value} (h : w.ownsRow base e size (.slice (some ⟨g, 0, none⟩) n cap) n xs) (j : Nat) : w.frozen? ⟨g, j, none⟩ = false := by
 rcases h.2 with ⟨h0, _⟩ | ⟨g', cap', cur, h0, _, hg, _⟩
 ·cases h0
 ·simp only [Value.slice.injEq, Option.some.injEq, Addr.mk.injEq, and_true, true_and] at h0
  obtain ⟨rfl, rfl⟩ := h0
  simp [World.frozen?, hg]
end
def Tg (w : World) (k : Nat) (T : TypeId) : Prop := ∃ cs fz, w.heap[k]? = some (.cells cs T fz)
structure FrT (B : Nat) (Ts : List TypeId) (w w' : World) : Prop where
 os : w'.os = w.os
 tape : w'.tape = w.tape
 output : w'.output = w.output
 size : w.heap.size ≤ w'.heap.size
 block : ∀ k, k < w.heap.size → (B ≤ k → ∀ T ∈ Ts, ¬ Tg w k T) → w'.heap[k]? = w.heap[k]?
section
variable {B : Nat} {Ts : List TypeId} {a b c w w' : World}
theorem FrT.refl (B : Nat) (Ts : List TypeId) (w : World) : FrT B Ts w w := ⟨rfl, rfl, rfl, Nat.le_refl _, fun _ _ _ => rfl⟩
theorem FrT.trans (h : FrT B Ts a b) (k : FrT B Ts b c) : FrT B Ts a c :=
 ⟨k.os.trans h.os, k.tape.trans h.tape, k.output.trans h.output, Nat.le_trans h.size k.size, fun i hi hx => by
  have h1 := h.block i hi hx
  rw [k.block i (Nat.lt_of_lt_of_le hi h.size) (fun hB T hT ⟨cs, fz, hg⟩ => hx hB T hT ⟨cs, fz, by rw [← h1]; exact hg⟩), h1]⟩
theorem FrT.mono {Us : List TypeId} (h : FrT B Ts a b) (hs : ∀ T ∈ Ts, T ∈ Us) : FrT B Us a b :=
 ⟨h.os, h.tape, h.output, h.size, fun k hk hx => h.block k hk (fun hB T hT => hx hB T (hs T hT))⟩
theorem FrT.base {B' : Nat} (h : FrT B Ts a b) (hB : B' ≤ B) : FrT B' Ts a b :=
 ⟨h.os, h.tape, h.output, h.size, fun k hk hx => h.block k hk (fun hb => hx (Nat.le_trans hB hb))⟩
theorem FrT.of_below (h : Below a.heap.size a b) : FrT B Ts a b := ⟨h.os, h.tape, h.output, h.size, fun k hk _ => h.block k hk⟩
theorem FrT.then (h : FrT B Ts a b) (k : Below b.heap.size b c) : FrT B Ts a c := h.trans (FrT.of_below k)
theorem FrT.below (h : FrT B Ts a b) (hB : B ≤ a.heap.size) : Below B a b :=
 ⟨h.os, h.tape, h.output, h.size, fun k hk => h.block k (Nat.lt_of_lt_of_le hk hB) (fun h => by omega)⟩
theorem FrT.drewN (h : FrT B Ts a b) (n : Nat) : FrT B Ts a (b.drewN n) := ⟨h.os, h.tape, h.output, h.size, h.block⟩
theorem FrT.drew (h : FrT B Ts a b) : FrT B Ts a b.drew := ⟨h.os, h.tape, h.output, h.size, h.block⟩
theorem FrT.undrew (h : FrT B Ts a.drew b) : FrT B Ts a b := ⟨h.os, h.tape, h.output, h.size, h.block⟩
theorem FrT.undrewN {n : Nat} (h : FrT B Ts (a.drewN n) b) : FrT B Ts a b := ⟨h.os, h.tape, h.output, h.size, h.block⟩
theorem FrT.alloc (h : FrT B Ts a b) (o : Obj) : FrT B Ts a (b.alloc o) := h.then ((Below.refl _ _).alloc (Nat.le_refl _) _)
theorem FrT.setCell (h : FrT B Ts a b) {p : Addr} {T : TypeId} (hT : T ∈ Ts) (hg : Tg b p.block T) (hp : B ≤ p.block) (u : Value) : FrT B Ts a (b.setCell p u) :=
 h.trans ⟨rfl, rfl, rfl, by simp [World.setCell], fun k hk hx => Below.heap_setCell _ _ _ _ (by rintro rfl; exact hx hp T hT hg)⟩
theorem FrT.grown {row : Option Nat} {T : TypeId} (h : FrT B Ts a b) (hg : b.grownBy c row) (hT : T ∈ Ts) (hr : ∀ k, row = some k → B ≤ k ∧ Tg b k T) : FrT B Ts a c :=
 h.trans ⟨hg.os, hg.tape, hg.output, hg.size, fun k hk hx => hg.block k hk (fun e => by
  have h1 := hr k e.symm
  exact hx h1.1 T hT h1.2)⟩
theorem Blk.tg {n : Nat} {cs : Array Value} {T : TypeId} (h : Blk w n cs T) : Tg w n T := ⟨cs, (0, 0), h⟩
theorem Blk.frT {n : Nat} {cs : Array Value} {T : TypeId} (h : Blk w n cs T) (hf : FrT B Ts w w') (hT : T ∉ Ts) : Blk w' n cs T := by
 have hl := h.lt
 unfold Blk at h ⊢
 rw [hf.block n hl (fun _ U hU ⟨ds, fz, hg⟩ => by rw [h] at hg; simp at hg; exact hT (hg.2.1 ▸ hU))]; exact h
theorem oTg {base : Nat} {e : TypeId} {size : Nat} {v : Value} {n : Nat} {xs : List Value} (h : w.ownsRow base e size v n xs) : ∀ k, v.ownBlock = some k → base ≤ k ∧ Tg w k e := by
 intro k hk
 rcases h.2 with ⟨rfl, _⟩ | ⟨g, cap, cur, rfl, hbg, hgg, _⟩
 ·simp [Value.ownBlock] at hk
 ·simp only [Value.ownBlock, Option.some.injEq] at hk
  subst hk
  exact ⟨hbg, cur, _, hgg⟩
theorem oFrT {base : Nat} {e : TypeId} {size : Nat} {v : Value} {n : Nat} {xs : List Value} (h : w.ownsRow base e size v n xs) (hf : FrT B Ts w w') (he : e ∉ Ts) : w'.ownsRow base e size v n xs := by
 refine ⟨h.1, ?_⟩
 rcases h.2 with hn | ⟨g, cap, cur, rfl, hbg, hgg, rest⟩
 ·exact .inl hn
 ·refine .inr ⟨g, cap, cur, rfl, hbg, ?_, rest⟩
  rw [hf.block g (Array.getElem?_eq_some_iff.1 hgg).1 (fun _ U hU ⟨ds, fz, hg⟩ => by rw [hgg] at hg; simp at hg; exact he (hg.2.1 ▸ hU))]
  exact hgg
end
end Go.RowKit
namespace Db
abbrev Ac := Int × Bool
abbrev Ln := Int × Int
abbrev Tn := Int × Int × List Ln
structure Bk where
 acs : List Ac
 txs : List Tn
def bk0 : Bk := ⟨[(-1, false)], []⟩
def ther (s : Bk) (a : Int) : Bool := decide (0 ≤ a) && decide (a < s.acs.length)
def clsd (s : Bk) (a : Int) : Bool := (s.acs.getD a.toNat (0, false)).2
def opn (s : Bk) (p : Int) : Int × Int × Bk :=
 if ther s p = false then (0, 7, s) else if clsd s p = true then (0, 8, s) else if 16 ≤ s.acs.length then (0, 11, s)
 else (s.acs.length, 0, { s with acs := s.acs ++ [(p, false)] })
def opb (a : Int) : List Ac → Bool
 | [] => false
 | c :: r => (c.1 == a && !c.2) || opb a r
def balL (a : Int) : List Ln → Int
 | [] => 0
 | l :: r => (if l.1 == a then l.2 else 0) + balL a r
def balT (a : Int) : List Tn → Int
 | [] => 0
 | t :: r => balL a t.2.2 + balT a r
def cls (s : Bk) (a : Int) : Int × Bk :=
 if ther s a = false ∨ a = 0 then (7, s) else if clsd s a = true then (8, s) else if opb a s.acs = true then (9, s) else if ¬ balT a s.txs = 0 then (10, s)
 else (0, { s with acs := s.acs.set a.toNat ((s.acs.getD a.toNat (0, false)).1, true) })
def findT (id : Int) : List Tn → Option Tn
 | [] => none
 | t :: r => if t.1 == id then some t else findT id r
def amtB (l : Ln) : Bool := l.2 == 0 || decide (l.2 < -1000000000000) || decide (1000000000000 < l.2)
def accB (s : Bk) (l : Ln) : Bool := ther s l.1 && !(l.1 == 0)
def sumL : List Ln → Int
 | [] => 0
 | l :: r => l.2 + sumL r
def lnsE (s : Bk) (ls : List Ln) : Int :=
 if ls.length < 2 ∨ 4 < ls.length then 15 else if ls.any amtB = true then 16 else if ls.all (accB s) = false then 7 else if ls.any (fun l => clsd s l.1) = true then 8
 else if ¬ sumL ls = 0 then 17 else 0
def pst (s : Bk) (id day : Int) (ls : List Ln) : Int × Bk :=
 if id < 0 ∨ 9999 < id then (12, s) else
 match findT id s.txs with
 | some t => (if t.2.1 = day ∧ t.2.2 = ls then 0 else 13, s)
 | none => if day < 0 ∨ 999 < day then (14, s) else if ¬ lnsE s ls = 0 then (lnsE s ls, s) else if 64 ≤ s.txs.length then (11, s)
  else (0, { s with txs := s.txs ++ [(id, day, ls)] })
def cnt (s : Bk) : Nat := (s.acs.length - 1) + (s.acs.filter (·.2)).length + s.txs.length
structure BkGood (s : Bk) : Prop where
 one : 1 ≤ s.acs.length
 few : s.acs.length ≤ 16
 par : ∀ c ∈ s.acs, -1 ≤ c.1 ∧ c.1 ≤ 16
 ord : ∀ (i : Nat) c, s.acs[i]? = some c → c.1 < i
 acc : ∀ t ∈ s.txs, ∀ l ∈ t.2.2, l.1 < s.acs.length
 posts : s.txs.length ≤ 64
 tx : ∀ t ∈ s.txs, 0 ≤ t.1 ∧ t.1 ≤ 9999 ∧ 0 ≤ t.2.1 ∧ t.2.1 ≤ 999 ∧ t.2.2.length ≤ 4 ∧ ∀ l ∈ t.2.2, 0 < l.1 ∧ l.1 < 16 ∧ -1000000000000 ≤ l.2 ∧ l.2 ≤ 1000000000000
theorem good0 : BkGood bk0 := ⟨by simp [bk0], by simp [bk0], by simp [bk0], by
 intro i c h
 cases i with
 | zero => simp [bk0] at h; subst h; simp
 | succ i => simp [bk0] at h, by simp [bk0], by simp [bk0], by simp [bk0]⟩
theorem BkGood.opn {s : Bk} (h : BkGood s) (p : Int) : BkGood (opn s p).2.2 := by
 unfold Db.opn
 split
 ·exact h
 ·split
  ·exact h
  ·split
   ·exact h
   ·rename_i h1 _ h3
    simp only [Bool.not_eq_false] at h1
    unfold ther at h1
    simp only [Bool.and_eq_true, decide_eq_true_eq] at h1
    refine ⟨by simp, by simp; omega, ?_, ?_, ?_, h.posts, h.tx⟩
    ·intro c hc
     simp only [List.mem_append, List.mem_singleton] at hc
     rcases hc with hc | rfl
     ·exact h.par c hc
     ·have := h.few
      simp only
      omega
    ·intro i c hc
     rw [List.getElem?_append] at hc
     split at hc
     ·exact h.ord i c hc
     ·rename_i hi
      cases hj : i - s.acs.length with
      | zero =>
       rw [hj] at hc
       simp only [List.getElem?_cons_zero, Option.some.injEq] at hc
       subst hc
       simp only
       omega
      | succ k => rw [hj] at hc; simp at hc
    ·intro t ht l hl
     have := h.acc t ht l hl
     simp only [List.length_append, List.length_cons, List.length_nil]
     omega
theorem BkGood.cls {s : Bk} (h : BkGood s) (a : Int) : BkGood (cls s a).2 := by
 unfold Db.cls
 repeat' split
 all_goals first | exact h | skip
 refine ⟨by simpa using h.one, by simpa using h.few, ?_, ?_, by simpa using h.acc, h.posts, h.tx⟩
 rotate_left
 ·intro i c hc
  rw [List.getElem?_set] at hc
  split at hc
  ·rename_i hi
   split at hc
   ·rename_i hlt
    simp only [Option.some.injEq] at hc
    subst hc
    simp only
    rw [List.getD_eq_getElem?_getD]
    cases hg : s.acs[a.toNat]? with
    | none => rw [List.getElem?_eq_none_iff] at hg; omega
    | some x =>
     have := h.ord _ _ hg
     simp only [Option.getD_some]
     omega
   ·cases hc
  ·exact h.ord i c hc
 intro c hc
 rcases List.mem_or_eq_of_mem_set hc with hc | rfl
 ·exact h.par c hc
 ·simp only
  have hd : s.acs.getD a.toNat (0, false) ∈ s.acs ∨ s.acs.getD a.toNat (0, false) = (0, false) := by
   rw [List.getD_eq_getElem?_getD]
   cases hg : s.acs[a.toNat]? with
   | none => right; rfl
   | some x => left; exact List.mem_of_getElem? hg
  rcases hd with hd | hd
  ·exact h.par _ hd
  ·rw [hd]; simp
theorem lnsE_ok {s : Bk} {ls : List Ln} (_hs : BkGood s) (h : lnsE s ls = 0) : ls.length ≤ 4 ∧ ∀ l ∈ ls, 0 < l.1 ∧ l.1 < s.acs.length ∧ -1000000000000 ≤ l.2 ∧ l.2 ≤ 1000000000000 := by
 unfold lnsE at h
 split at h
 ·simp at h
 ·split at h
  ·simp at h
  ·split at h
   ·simp at h
   ·rename_i h1 h2 h3
    refine ⟨by omega, fun l hl => ?_⟩
    simp only [Bool.not_eq_true, List.any_eq_false] at h2
    simp only [Bool.not_eq_false, List.all_eq_true] at h3
    have a : amtB l = false := by simpa using h2 l hl
    have b := h3 l hl
    unfold amtB at a
    unfold accB ther at b
    simp only [Bool.or_eq_false_iff, decide_eq_false_iff_not] at a
    simp only [decide_eq_true_eq, Bool.and_eq_true, Bool.not_eq_true', beq_eq_false_iff_ne, ne_eq] at b
    omega
theorem BkGood.pst {s : Bk} (h : BkGood s) (id day : Int) (ls : List Ln) : BkGood (pst s id day ls).2 := by
 unfold Db.pst
 split
 ·exact h
 ·split
  ·exact h
  ·split
   ·exact h
   ·split
    ·exact h
    ·split
     ·exact h
     ·rename_i h1 _ h2 h3 h4
      have hl := lnsE_ok h (Decidable.not_not.1 h3)
      have hfw := h.few
      refine ⟨h.one, h.few, h.par, h.ord, ?_, by simp; omega, ?_⟩
      ·intro t ht l hl2
       simp only [List.mem_append, List.mem_singleton] at ht
       rcases ht with ht | rfl
       ·exact h.acc t ht l hl2
       ·exact (hl.2 l hl2).2.1
      intro t ht
      simp only [List.mem_append, List.mem_singleton] at ht
      rcases ht with ht | rfl
      ·exact h.tx t ht
      ·simp only
       exact ⟨by omega, by omega, by omega, by omega, hl.1, fun l hx => ⟨(hl.2 l hx).1, by have := (hl.2 l hx).2.1; omega, (hl.2 l hx).2.2⟩⟩
theorem flt_set (l : List Ac) : ∀ (k : Nat) (c : Ac), l[k]? = some c → ((l.set k (c.1, true)).filter (·.2)).length = (l.filter (·.2)).length + (if c.2 then 0 else 1) := by
 induction l with
 | nil => intro k c h; simp at h
 | cons x t ih =>
  intro k c h
  cases k with
  | zero =>
   simp at h; subst h
   obtain ⟨a, b⟩ := x
   cases b <;> simp
  | succ k =>
   simp only [List.getElem?_cons_succ] at h
   have := ih k c h
   simp only [List.set_cons_succ, List.filter_cons]
   split <;> simp [this]; omega
theorem cnt_bound {s : Bk} (h : BkGood s) : cnt s ≤ 95 := by
 have h1 := h.few
 have h2 := h.posts
 have h3 := List.length_filter_le (·.2) s.acs
 unfold cnt
 omega
theorem cnt_more {s : Bk} {a : Ac} (h : BkGood s) (ha : a.2 = false) : cnt { s with acs := s.acs ++ [a] } = cnt s + 1 := by
 have h1 := h.one
 unfold cnt
 simp [ha]
 omega
theorem cnt_shut {s : Bk} {k : Nat} {c : Ac} (h : s.acs[k]? = some c) : cnt { s with acs := s.acs.set k (c.1, true) } = cnt s + (if c.2 then 0 else 1) := by
 unfold cnt
 simp only [List.length_set, flt_set s.acs k c h]
 omega
theorem cnt_post {s : Bk} {t : Tn} : cnt { s with txs := s.txs ++ [t] } = cnt s + 1 := by
 unfold cnt
 simp
 omega
end Db
namespace Go.Proofs.YtdchbenfccofpaaGreatDoor
open Go.RowKit Db
def cellsA (l : List Ac) : List Value := l.flatMap fun a => [.int .i64 a.1, .bool a.2]
def cellsL (l : List Ln) : List Value := l.flatMap fun a => [.int .i64 a.1, .int .i64 a.2]
def cellsT (l : List (Tn × Value)) : List Value := l.flatMap fun a => [.int .i64 a.1.1, .int .i64 a.1.2.1, a.2]
abbrev Wr := Int × ByteArray
structure Dk where
 u : Nat
 vw : Value
 ws : List Wr
def cellsW (l : List Wr) : List Value := l.flatMap fun a => [.int .i64 a.1, .string a.2]
theorem cellsT_snoc (l : List (Tn × Value)) (a : Tn × Value) : cellsT (l ++ [a]) = cellsT l ++ [.int .i64 a.1.1, .int .i64 a.1.2.1, a.2] := by simp [cellsT]
theorem two_get {α : Type} (f g : α → Value) (l : List α) : ∀ (k : Nat) (a : α), l[k]? = some a → (l.flatMap fun x => [f x, g x])[k * 2]? = some (f a) ∧ (l.flatMap fun x => [f x, g x])[k * 2 + 1]? = some (g a) := by
 induction l with
 | nil => intro k a h; simp at h
 | cons x t ih =>
  intro k a h
  cases k with
  | zero => simp at h; subst h; simp
  | succ k =>
   simp only [List.getElem?_cons_succ] at h
   have := ih k a h
   simp only [List.flatMap_cons, List.cons_append, List.nil_append]
   rw [show (k + 1) * 2 = k * 2 + 1 + 1 by omega, show k * 2 + 1 + 1 + 1 = (k * 2 + 1) + 1 + 1 by omega]
   simpa using this
theorem three_get {α : Type} (f g h : α → Value) (l : List α) : ∀ (k : Nat) (a : α), l[k]? = some a → (l.flatMap fun x => [f x, g x, h x])[k * 3]? = some (f a) ∧ (l.flatMap fun x => [f x, g x, h x])[k * 3 + 1]? = some (g a) ∧ (l.flatMap fun x => [f x, g x, h x])[k * 3 + 2]? = some (h a) := by
 induction l with
 | nil => intro k a h; simp at h
 | cons x t ih =>
  intro k a hk
  cases k with
  | zero => simp at hk; subst hk; simp
  | succ k =>
   simp only [List.getElem?_cons_succ] at hk
   have := ih k a hk
   simp only [List.flatMap_cons, List.cons_append, List.nil_append]
   rw [show (k + 1) * 3 = k * 3 + 1 + 1 + 1 by omega, show k * 3 + 1 + 1 + 1 + 1 = (k * 3 + 1) + 1 + 1 + 1 by omega, show k * 3 + 1 + 1 + 1 + 2 = (k * 3 + 2) + 1 + 1 + 1 by omega]
   simpa using this
structure Txs (w : World) (B : Nat) (T : TypeId) (vt : Value) (tv : List (Tn × Value)) : Prop where
 own : w.ownsRow B T 3 vt tv.length (cellsT tv)
 lns : ∀ x ∈ tv, w.ownsRow B 89 2 x.2 x.1.2.2.length (cellsL x.1.2.2)
theorem Txs.frT {w w' : World} {B B' : Nat} {T : TypeId} {vt : Value} {tv : List (Tn × Value)} {Ts : List TypeId} (h : Txs w B T vt tv) (hf : FrT B' Ts w w') (h1 : T ∉ Ts) (h2 : 89 ∉ Ts) : Txs w' B T vt tv :=
 ⟨oFrT h.own hf h1, fun x hx => oFrT (h.lns x hx) hf h2⟩
theorem Txs.kept {w w' : World} {B : Nat} {T : TypeId} {vt : Value} {tv : List (Tn × Value)} (h : Txs w B T vt tv) (hb : Below w.heap.size w w') : Txs w' B T vt tv :=
 h.frT (FrT.of_below (B := 0) (Ts := []) hb) (by simp) (by simp)
structure LedAt (w : World) (B p : Nat) (va vt : Value) (tv : List (Tn × Value)) (d : Dk) (s : Bk) : Prop where
 blk : Blk w p #[va, vt, .int .i64 d.u, d.vw] 102
 lo : B ≤ p
 acs : w.ownsRow B 143 2 va s.acs.length (cellsA s.acs)
 txs : Txs w B 148 vt tv
 jr : tv.map (·.1) = s.txs
 good : BkGood s
 dsk : w.ownsRow B 153 2 d.vw d.ws.length (cellsW d.ws)
 dlen : d.ws.length ≤ 2 * d.u
 dcnt : d.u ≤ cnt s
def tP : List TypeId := [102, 143, 148, 153]
def LedW (w : World) (B p u : Nat) (ws : List Wr) (s : Bk) : Prop := ∃ va vt tv vw, LedAt w B p va vt tv ⟨u, vw, ws⟩ s
def Led (w : World) (B p : Nat) (s : Bk) : Prop := ∃ va vt tv d, LedAt w B p va vt tv d s
theorem LedW.led {w : World} {B p u : Nat} {ws : List Wr} {s : Bk} (h : LedW w B p u ws s) : Led w B p s := by obtain ⟨va, vt, tv, vw, h⟩ := h; exact ⟨va, vt, tv, _, h⟩
theorem Led.some {w : World} {B p : Nat} {s : Bk} (h : Led w B p s) : ∃ u ws, LedW w B p u ws s := by obtain ⟨va, vt, tv, ⟨u, vw, ws⟩, h⟩ := h; exact ⟨u, ws, va, vt, tv, vw, h⟩
theorem LedAt.frT {w w' : World} {B B' p : Nat} {va vt : Value} {tv : List (Tn × Value)} {d : Dk} {s : Bk} {Ts : List TypeId} (h : LedAt w B p va vt tv d s) (hf : FrT B' Ts w w') (h1 : ∀ T ∈ tP, T ∉ Ts) (h2 : 89 ∉ Ts) : LedAt w' B p va vt tv d s :=
 ⟨h.blk.frT hf (h1 _ (by simp [tP])), h.lo, oFrT h.acs hf (h1 _ (by simp [tP])), h.txs.frT hf (h1 _ (by simp [tP])) h2, h.jr, h.good, oFrT h.dsk hf (h1 _ (by simp [tP])), h.dlen, h.dcnt⟩
theorem LedAt.kept {w w' : World} {B p : Nat} {va vt : Value} {tv : List (Tn × Value)} {d : Dk} {s : Bk} (h : LedAt w B p va vt tv d s) (hb : Below w.heap.size w w') : LedAt w' B p va vt tv d s :=
 h.frT (FrT.of_below (B := 0) (Ts := []) hb) (by simp) (by simp)
structure RefAt (w : World) (B p : Nat) (vp vc vt : Value) (tv : List (Tn × Value)) (s : Bk) : Prop where
 blk : Blk w p #[vp, vc, vt] 84
 lo : B ≤ p
 par : w.ownsRow B 3 1 vp s.acs.length (s.acs.map fun a => .int .i64 a.1)
 clo : w.ownsRow B 4 1 vc s.acs.length (s.acs.map fun a => .bool a.2)
 txs : Txs w B 87 vt tv
 jr : tv.map (·.1) = s.txs
 good : BkGood s
def tR : List TypeId := [84, 3, 4, 87]
def Rfd (w : World) (B p : Nat) (s : Bk) : Prop := ∃ vp vc vt tv, RefAt w B p vp vc vt tv s
theorem RefAt.frT {w w' : World} {B B' p : Nat} {vp vc vt : Value} {tv : List (Tn × Value)} {s : Bk} {Ts : List TypeId} (h : RefAt w B p vp vc vt tv s) (hf : FrT B' Ts w w') (h1 : ∀ T ∈ tR, T ∉ Ts) (h2 : 89 ∉ Ts) : RefAt w' B p vp vc vt tv s :=
 ⟨h.blk.frT hf (h1 _ (by simp [tR])), h.lo, oFrT h.par hf (h1 _ (by simp [tR])), oFrT h.clo hf (h1 _ (by simp [tR])), h.txs.frT hf (h1 _ (by simp [tR])) h2, h.jr, h.good⟩
theorem RefAt.kept {w w' : World} {B p : Nat} {vp vc vt : Value} {tv : List (Tn × Value)} {s : Bk} (h : RefAt w B p vp vc vt tv s) (hb : Below w.heap.size w w') : RefAt w' B p vp vc vt tv s :=
 h.frT (FrT.of_below (B := 0) (Ts := []) hb) (by simp) (by simp)
theorem owns_new {w : World} {B g : Nat} {e : TypeId} {size n : Nat} {cs : Array Value} (h : w.heap[g]? = some (.cells cs e (0, 0))) (hB : B ≤ g) (hn : n ≤ maxLen) (hs : cs.size = n * size) : w.ownsRow B e size (.slice (some ⟨g, 0, none⟩) n n) n cs.toList :=
 ⟨by simpa using hs, .inr ⟨g, n, cs, rfl, hB, h, Nat.le_refl _, hn, hs, by rw [← hs]; exact List.take_of_length_le (by simp)⟩⟩
theorem ledNew_any (w : World) :
  Calls Tryz.prog 100 #[] w fun e w' => ∃ g, e = .returned (.agg #[.slice (some ⟨g, 0, none⟩) 1 1, .slice none 0 0]) ∧ w'.ownsRow w.heap.size 143 2 (.slice (some ⟨g, 0, none⟩) 1 1) 1 (cellsA bk0.acs) ∧ Below w.heap.size w w' := by
 go_enter Tryz.func100, Tryz.ntmps100
 go_wp2_with fail
 refine bodyPost_ret (v := .agg #[.slice (some ⟨w.heap.size + 1, 0, none⟩) 1 1, .slice none 0 0]) (by simp [results, Tryz.results100, go_sem]) rfl ⟨_, rfl, ?_, ?_⟩
 ·exact owns_new (cs := #[.int .i64 (-1), .bool false]) (by simpa using heap_alloc_new (w.alloc _) _) (by omega) (by unfold maxLen; omega) rfl
 ·exact ((Below.refl _ _).alloc (Nat.le_refl _) _).alloc (by simp) _
theorem dayNew_any (w : World) :
  Calls Tryz.prog 62 #[] w fun e w' => ∃ p, e = .returned (.pointer (some ⟨p, 0, none⟩)) ∧ LedW w' w.heap.size p 0 [] bk0 ∧ Below w.heap.size w w' := by
 go_enter Tryz.func62, Tryz.ntmps62
 go_wp2_with fail
 refine (ledNew_any _).mono ?_
 rintro e w1 ⟨g, rfl, hg, hb⟩
 have Hg := hI hg
 have Hb := hI hb
 have hsz := hb.size
 clear hg hb
 go_wp2_with fail
 go_ret
 exact ⟨_, rfl, ⟨.slice (some ⟨g, 0, none⟩) 1 1, .slice none 0 0, [], .slice none 0 0, Blk.new _ _ _, hsz, Hg.u.alloc _, ⟨World.ownsRow_nil _ _ _ _, by simp⟩, rfl, good0, World.ownsRow_nil _ _ _ _, Nat.le_refl _, Nat.zero_le _⟩, Hb.u.alloc hsz _⟩
theorem refNew_any (w : World) :
  Calls Tryz.prog 12 #[] w fun e w' => ∃ p, e = .returned (.pointer (some ⟨p, 0, none⟩)) ∧ Rfd w' w.heap.size p bk0 ∧ Below w.heap.size w w' := by
 go_enter Tryz.func12, Tryz.ntmps12
 go_wp2_with fail
 go_ret
 refine ⟨w.heap.size + 1 + 1, rfl, ⟨.slice (some ⟨w.heap.size, 0, none⟩) 1 1, .slice (some ⟨w.heap.size + 1, 0, none⟩) 1 1, .slice none 0 0, [], ?_, by omega, ?_, ?_, ⟨World.ownsRow_nil _ _ _ _, by simp⟩, rfl, good0⟩, ?_⟩
 ·have := Blk.new ((w.alloc (Obj.cells #[Value.int IntKind.i64 (-1)] 3)).alloc (Obj.cells #[Value.bool false] 4)) #[.slice (some ⟨w.heap.size, 0, none⟩) 1 1, .slice (some ⟨w.heap.size + 1, 0, none⟩) 1 1, .slice none 0 0] 84
  simpa using this
 ·exact owns_new (cs := #[.int .i64 (-1)]) (((Blk.new w #[.int .i64 (-1)] 3).alloc _).alloc _) (by omega) (by unfold maxLen; omega) rfl
 ·exact owns_new (cs := #[.bool false]) (by simpa [Blk] using (Blk.new (w.alloc (Obj.cells #[Value.int IntKind.i64 (-1)] 3)) #[.bool false] 4).alloc (Obj.cells #[.slice (some ⟨w.heap.size, 0, none⟩) 1 1, .slice (some ⟨w.heap.size + 1, 0, none⟩) 1 1, .slice none 0 0] 84)) (by omega) (by unfold maxLen; omega) rfl
 ·exact (((Below.refl _ _).alloc (Nat.le_refl _) _).alloc (by simp) _).alloc (by simp; omega) _
theorem new1 (w : World) (n : Nat) (hn : n = w.heap.size) (x : Value) (t : TypeId) : ∀ j u, [x][j]? = some u → (w.alloc (.cells #[x] t)).cell? ((⟨n, 0, none⟩ : Addr).add j) = some u := by
 subst hn; intro j u h; rw [Addr.add_lit]; have := (Blk.new w #[x] t).cell j; simp only [Nat.zero_add]; rw [this]; simpa using h
theorem new2 (w : World) (n : Nat) (hn : n = w.heap.size) (x y : Value) (t : TypeId) : ∀ j u, [x, y][j]? = some u → (w.alloc (.cells #[x, y] t)).cell? ((⟨n, 0, none⟩ : Addr).add j) = some u := by
 subst hn; intro j u h; rw [Addr.add_lit]; have := (Blk.new w #[x, y] t).cell j; simp only [Nat.zero_add]; rw [this]; simpa using h
theorem new3 (w : World) (n : Nat) (hn : n = w.heap.size) (x y z : Value) (t : TypeId) : ∀ j u, [x, y, z][j]? = some u → (w.alloc (.cells #[x, y, z] t)).cell? ((⟨n, 0, none⟩ : Addr).add j) = some u := by
 subst hn; intro j u h; rw [Addr.add_lit]; have := (Blk.new w #[x, y, z] t).cell j; simp only [Nat.zero_add]; rw [this]; simpa using h
theorem info_account : (Tryz.prog.info? 143).map (fun i => (i.zero, i.size, i.bytes)) = some (some (.agg #[.int .i64 0, .bool false]), 2, 16) := by kernel_rfl
theorem infoInt : (Tryz.prog.info? 3).map (fun i => (i.zero, i.size, i.bytes)) = some (some (.int .i64 0), 1, 8) := by kernel_rfl
theorem infoBool : (Tryz.prog.info? 4).map (fun i => (i.zero, i.size, i.bytes)) = some (some (.bool false), 1, 1) := by kernel_rfl
theorem blk_own_ne {w : World} {n base size m : Nat} {cs : Array Value} {T e : TypeId} {v : Value} {xs : List Value} (hb : Blk w n cs T) (ho : w.ownsRow base e size v m xs) (hne : T ≠ e) : some n ≠ v.ownBlock := by
 intro h
 obtain ⟨_, ds, fz, hg⟩ := oTg ho n h.symm
 unfold Blk at hb
 rw [hb] at hg
 simp at hg
 exact hne hg.2.1
theorem own_apart' {w : World} {B B' : Nat} {e e' : TypeId} {s s' : Nat} {v v' : Value} {n n' : Nat} {xs xs' : List Value} (h : w.ownsRow B e s v n xs) (h' : w.ownsRow B' e' s' v' n' xs') (hne : e ≠ e') : v.ownBlock = none ∨ v.ownBlock ≠ v'.ownBlock := by
 rcases h.2 with ⟨rfl, _⟩ | ⟨g, cap, cur, rfl, _, hg, _⟩
 ·exact .inl rfl
 ·refine .inr (fun eq => ?_)
  obtain ⟨_, ds, fz, hg'⟩ := oTg h' g (by rw [← eq]; rfl)
  rw [hg] at hg'
  simp at hg'
  exact hne hg'.2.1
theorem opn_none {s : Bk} {a : Int} (h : ther s a = false) : opn s a = (0, 7, s) := by unfold opn; rw [if_pos h]
theorem opn_shut {s : Bk} {a : Int} (h : ther s a = true) (hc : clsd s a = true) : opn s a = (0, 8, s) := by unfold opn; rw [if_neg (by simp [h]), if_pos hc]
theorem opn_full {s : Bk} {a : Int} (h : ther s a = true) (hc : clsd s a = false) (hf : 16 ≤ s.acs.length) : opn s a = (0, 11, s) := by unfold opn; rw [if_neg (by simp [h]), if_neg (by simp [hc]), if_pos hf]
theorem opn_ok {s : Bk} {a : Int} (h : ther s a = true) (hc : clsd s a = false) (hf : ¬ 16 ≤ s.acs.length) : opn s a = ((s.acs.length : Int), 0, { s with acs := s.acs ++ [(a, false)] }) := by unfold opn; rw [if_neg (by simp [h]), if_neg (by simp [hc]), if_neg hf]
theorem ther_nat {s : Bk} {k : Nat} (h : k < s.acs.length) : ther s k = true := by unfold ther; simp; omega
theorem ther_no {s : Bk} {a : Int} (h : a < 0 ∨ (s.acs.length : Int) ≤ a) : ther s a = false := by unfold ther; simp; omega
theorem clsd_at {s : Bk} {k : Nat} {c : Ac} (h : s.acs[k]? = some c) : clsd s k = c.2 := by unfold clsd; simp [h]
theorem acs_get {s : Bk} {k : Nat} (h : k < s.acs.length) : ∃ c, s.acs[k]? = some c := ⟨s.acs[k], List.getElem?_eq_getElem h⟩
theorem tg_alloc {w : World} {k : Nat} {T : TypeId} (h : Tg w k T) (o : Obj) : Tg (w.alloc o) k T := by
 obtain ⟨cs, fz, hg⟩ := h
 exact ⟨cs, fz, by rw [Below.heap_alloc _ _ _ (Array.getElem?_eq_some_iff.1 hg).1]; exact hg⟩
theorem LedAt.more {w w5 : World} {B p : Nat} {va va' vt : Value} {tv : List (Tn × Value)} {d : Dk} {s s' : Bk} (h : LedAt w B p va vt tv d s) (o : Obj) (hgr : (w.alloc o).grownBy w5 va.ownBlock) (hblk : Blk w5 p #[va, vt, .int .i64 d.u, d.vw] 102)
  (hown : w5.ownsRow B 143 2 va' s'.acs.length (cellsA s'.acs)) (hs : s'.txs = s.txs) (hg : BkGood s') (hcn : cnt s ≤ cnt s') :
  LedAt (w5.setCell ⟨p, 0, none⟩ va') B p va' vt tv d s' ∧ FrT B tP w (w5.setCell ⟨p, 0, none⟩ va') := by
 have f1 : FrT B [143] w w5 := ((FrT.refl _ _ w).alloc o).grown hgr (T := 143) (by simp) (fun k hk => ⟨(oTg h.acs k hk).1, tg_alloc (oTg h.acs k hk).2 o⟩)
 have f2 : FrT B [102] w5 (w5.setCell ⟨p, 0, none⟩ va') := (FrT.refl _ _ w5).setCell (T := 102) (by simp) hblk.tg h.lo _
 refine ⟨⟨?_, h.lo, oFrT hown f2 (by decide), (h.txs.frT f1 (by decide) (by decide)).frT f2 (by decide) (by decide), by rw [hs]; exact h.jr, hg, oFrT (oFrT h.dsk f1 (by decide)) f2 (by decide), h.dlen, Nat.le_trans h.dcnt hcn⟩, ?_⟩
 ·have := hblk.set 0 va'
  simpa using this
 ·exact (f1.mono (by simp [tP])).trans (f2.mono (by simp [tP]))
def nB (n : Int) : List UInt8 := (List.range 6).map fun i => UInt8.ofNat ((n + 1000000000000).toNat / 256 ^ i % 256)
theorem nB_length (n : Int) : (nB n).length = 6 := by simp [nB]
theorem nB_get (n : Int) {j : Nat} (h : j < 6) : (nB n)[j]? = some (UInt8.ofNat ((n + 1000000000000).toNat / 256 ^ j % 256)) := by
 unfold nB
 rw [List.getElem?_map, List.getElem?_range h]
 rfl
def cellsU (l : List UInt8) : List Value := l.map fun c => .int .u8 (c.toNat : Int)
theorem cellsU_take {n : Int} {j : Nat} (h : j < 6) : cellsU ((nB n).take (j + 1)) = cellsU ((nB n).take j) ++ [.int .u8 (((n + 1000000000000).toNat / 256 ^ j % 256 : Nat) : Int)] := by
 unfold cellsU
 rw [List.take_add_one, nB_get n h]
 simp
theorem conv_bytes (l : List UInt8) (W : World) (B : Nat) (v : Value) (h : W.ownsRow B 5 1 v l.length (cellsU l)) (hn : 0 < l.length) : (convert 187 9 v).run Tryz.prog W = .ok (.string ⟨l.toArray⟩) W := by
 obtain ⟨g, cap, rfl, hg, hg'⟩ := oSome h hn
 exact run_convert_bytes_back (P := Tryz.prog) W 187 9 5 ⟨g, 0, none⟩ cap l Tryz.underlying187 Tryz.underlying5 Tryz.underlying9 (fun j hj => by
  rw [Addr.add_lit, Nat.zero_add]
  exact oCell h (j := j) (by simp [cellsU, hj]))
theorem info_u8 : (Tryz.prog.info? 5).map (fun i => (i.zero, i.size, i.bytes)) = some (some (.int .u8 0), 1, 1) := by kernel_rfl
theorem numberText_any (n : Int) (w : World) (h0 : -1000000000000 ≤ n) (h1 : n ≤ 1000000000000) :
  Calls Tryz.prog 184 #[.int .i64 n] w fun e w' => e = .returned (.string ⟨(nB n).toArray⟩) ∧ Below w.heap.size w w' := by
 obtain ⟨ii, hi, hz0, hz1, hz2⟩ := info_parts info_u8
 obtain ⟨x, hx⟩ : ∃ x : Nat, n + 1000000000000 = (x : Int) := ⟨(n + 1000000000000).toNat, by omega⟩
 have hxn : (n + 1000000000000).toNat = x := by omega
 have hxl : x ≤ 2000000000000 := by omega
 have Hcut := hI (fun (j : Nat) (h : j < 6) => cellsU_take (n := n) h)
 rw [hxn] at Hcut
 go_enter Tryz.func184, Tryz.ntmps184
 go_wp2_with fail
 go_loopg [3, 4, 5] 6 (fun m vr vb vi wr => ∃ j y : Nat, j ≤ 6 ∧ m = 6 - j ∧ vi = .int .i64 j ∧ vr = .int .i64 (y : Int) ∧ y ≤ 2000000000000 ∧ Hid (y = x / 256 ^ j) ∧ Hid (wr.ownsRow w.heap.size 5 1 vb j (cellsU ((nB n).take j))) ∧ Hid (Below w.heap.size w wr))
 case atStart => exact ⟨0, x, by omega, rfl, rfl, by rw [← hx], hxl, by simp [Hid], World.ownsRow_nil _ _ _ _, Below.refl _ _⟩
 case round =>
  obtain ⟨j, y, hj, rfl, rfl, rfl, hyl, Hy, Ho, Hb⟩ := hrel
  have hsz := Hb.u.size
  by_cases hlt : j < 6
  ·have Hc := hI (Hcut.u j hlt)
   have hnn : (0 : Int) ≤ (y : Int) := by omega
   obtain ⟨ao, cap, rfl⟩ := oForm Ho.u
   go_wp2_with (first
    | (at_builtin; refine wpList_append_own _ rfl (.tmp 12) (.tmp 16) 187 rfl w.heap.size 5 ii (.int .u8 0) 1 1 Tryz.underlying187 hi hz0 hz1 hz2 rfl (by decide) _ j _ rfl (Ho.u.alloc _) ⟨wr.heap.size, 0, none⟩ 1 1 [.int .u8 ((y % 256 : Nat) : Int)] rfl rfl (new1 _ _ (by simp) _ _) (fun x hx => by simp at hx; subst hx; rfl) (by unfold maxLen; omega) (by omega) (by simp; omega) ?_; intro vq' w5 hown5 hgr5 _; obtain ⟨gf, cf, rfl, hgf, hgf'⟩ := oSome hown5 (Nat.succ_pos _); have Hown5 := hI hown5; have Hgr5 := hI hgr5; clear hown5 hgr5))
   go_roundg (6 - (j + 1))
   case measure => omega
   case rel =>
    refine ⟨j + 1, y / 256, by omega, rfl, by go_num, by simp, by omega, ?_, ?_, ?_⟩
    ·show _ = _
     rw [Hy.u, Nat.div_div_eq_div_mul, Nat.pow_succ]
    ·show World.ownsRow _ _ _ _ _ _ _
     rw [Hc.u, ← Hy.u]
     exact Hown5.u
    ·exact (Hb.u.alloc hsz _).grown Hgr5.u (by simp; omega) (fun k hk => (oTg Ho.u k hk).1)
  ·obtain rfl : j = 6 := by omega
   have hcv := conv_bytes (nB n) wr w.heap.size _ (by rw [nB_length]; have := Ho.u; rw [List.take_of_length_le (by rw [nB_length]; omega)] at this; exact this) (by rw [nB_length]; omega)
   go_wp2_with fail
   go_ret
   exact ⟨rfl, Hb.u⟩
theorem retB' {a b : Bool} (h : a = b) : Ending.returned (.bool a) = .returned (.bool b) := by rw [h]
theorem there_any (B p : Nat) (s : Bk) (a : Int) (w : World) (h : Rfd w B p s) :
  Calls Tryz.prog 42 #[.pointer (some ⟨p, 0, none⟩), .int .i64 a] w fun e w' => e = .returned (.bool (ther s a)) ∧ w' = w := by
 obtain ⟨vp, vc, vt, tv, h⟩ := h
 obtain ⟨g, cap, rfl, hg, hg'⟩ := oSome h.par h.good.one
 have c0 := h.blk.cell 0
 simp only [List.getElem?_toArray, List.getElem?_cons_zero] at c0
 clear h
 by_cases hneg : 0 ≤ a
 ·by_cases hlt : a < s.acs.length
  ·go_enter Tryz.func42, Tryz.ntmps42
   go_wp2_with fail
   go_ret
   exact ⟨retB' (by unfold ther; simp [hneg, hlt]), rfl⟩
  ·go_enter Tryz.func42, Tryz.ntmps42
   go_wp2_with fail
   go_ret
   exact ⟨retB' (by unfold ther; simp [hneg, hlt]), rfl⟩
 ·go_enter Tryz.func42, Tryz.ntmps42
  go_wp2_with fail
  go_ret
  exact ⟨retB' (ther_no (.inl (by omega))).symm, rfl⟩
theorem RefAt.more {w w5 w6 : World} {B p : Nat} {vp vp' vc vc' vt : Value} {tv : List (Tn × Value)} {s s' : Bk} (h : RefAt w B p vp vc vt tv s) (o o2 : Obj) (hgr : (w.alloc o).grownBy w5 vp.ownBlock) (hblk : Blk w5 p #[vp, vc, vt] 84)
  (hown : w5.ownsRow B 3 1 vp' s'.acs.length (s'.acs.map fun a => .int .i64 a.1))
  (hgr2 : ((w5.setCell ⟨p, 0, none⟩ vp').alloc o2).grownBy w6 vc.ownBlock) (hblk2 : Blk w6 p #[vp', vc, vt] 84)
  (hown2 : w6.ownsRow B 4 1 vc' s'.acs.length (s'.acs.map fun a => .bool a.2)) (hs : s'.txs = s.txs) (hg : BkGood s') :
  RefAt (w6.setCell ⟨p, 1, none⟩ vc') B p vp' vc' vt tv s' ∧ FrT B tR w (w6.setCell ⟨p, 1, none⟩ vc') := by
 have f1 : FrT B [3] w w5 := ((FrT.refl _ _ w).alloc o).grown hgr (T := 3) (by simp) (fun k hk => ⟨(oTg h.par k hk).1, tg_alloc (oTg h.par k hk).2 o⟩)
 have f2 : FrT B [84] w5 (w5.setCell ⟨p, 0, none⟩ vp') := (FrT.refl _ _ w5).setCell (T := 84) (by simp) hblk.tg h.lo _
 have hc : (w5.setCell ⟨p, 0, none⟩ vp').ownsRow B 4 1 vc s.acs.length (s.acs.map fun a => .bool a.2) := oFrT (oFrT h.clo f1 (by decide)) f2 (by decide)
 have f3 : FrT B [4] (w5.setCell ⟨p, 0, none⟩ vp') w6 := ((FrT.refl _ _ _).alloc o2).grown hgr2 (T := 4) (by simp) (fun k hk => ⟨(oTg hc k hk).1, tg_alloc (oTg hc k hk).2 o2⟩)
 have f4 : FrT B [84] w6 (w6.setCell ⟨p, 1, none⟩ vc') := (FrT.refl _ _ w6).setCell (T := 84) (by simp) hblk2.tg h.lo _
 refine ⟨⟨?_, h.lo, oFrT (oFrT (oFrT hown f2 (by decide)) f3 (by decide)) f4 (by decide), oFrT hown2 f4 (by decide), (((h.txs.frT f1 (by decide) (by decide)).frT f2 (by decide) (by decide)).frT f3 (by decide) (by decide)).frT f4 (by decide) (by decide), by rw [hs]; exact h.jr, hg⟩, ?_⟩
 ·have := hblk2.set 1 vc'
  simpa using this
 ·exact (((f1.mono (by simp [tR])).trans (f2.mono (by simp [tR]))).trans (f3.mono (by simp [tR]))).trans (f4.mono (by simp [tR]))
theorem retI' {k : IntKind} {a b : Int} (h : a = b) : Ending.returned (.int k a) = .returned (.int k b) := by rw [h]
theorem opb_step {a : Int} {l : List Ac} {j : Nat} {c : Ac} (h : l[j]? = some c) : opb a (l.drop j) = ((c.1 == a && !c.2) || opb a (l.drop (j + 1))) := by
 obtain ⟨hi, rfl⟩ := List.getElem?_eq_some_iff.1 h
 rw [List.drop_eq_getElem_cons hi]; rfl
theorem balT_step {a : Int} {l : List Tn} {j : Nat} {t : Tn} (h : l[j]? = some t) : balT a (l.drop j) = balL a t.2.2 + balT a (l.drop (j + 1)) := by
 obtain ⟨hi, rfl⟩ := List.getElem?_eq_some_iff.1 h
 rw [List.drop_eq_getElem_cons hi]; rfl
theorem balL_step {a : Int} {l : List Ln} {j : Nat} {t : Ln} (h : l[j]? = some t) : balL a (l.drop j) = (if t.1 == a then t.2 else 0) + balL a (l.drop (j + 1)) := by
 obtain ⟨hi, rfl⟩ := List.getElem?_eq_some_iff.1 h
 rw [List.drop_eq_getElem_cons hi]; rfl
theorem hasOpen_any (B p : Nat) (s : Bk) (a : Int) (w : World) (h : Led w B p s) :
  Calls Tryz.prog 140 #[.pointer (some ⟨p, 0, none⟩), .int .i64 a] w fun e w' => e = .returned (.bool (opb a s.acs)) ∧ Below w.heap.size w w' := by
 obtain ⟨va, vt, tv, dk, h⟩ := h
 obtain ⟨g, cap, rfl, hg, hg'⟩ := oSome h.acs h.good.one
 have c0 := h.blk.cell 0
 simp only [List.getElem?_toArray, List.getElem?_cons_zero] at c0
 have hfew := h.good.few
 have H := hI h
 clear h
 go_enter Tryz.func140, Tryz.ntmps140
 go_wp2_with fail
 go_loopg [12] s.acs.length (fun m i wr => ∃ j : Nat, j ≤ s.acs.length ∧ m = s.acs.length - j ∧ i = .int .i64 j ∧ Hid (opb a (s.acs.drop j) = opb a s.acs) ∧ Hid (Below w.heap.size w wr))
 case atStart => exact ⟨0, by omega, rfl, rfl, rfl, Below.refl _ _⟩
 case round =>
  obtain ⟨j, hj, rfl, rfl, Ho, Hb⟩ := hrel
  have hsz := Hb.u.size
  by_cases hlt : j < s.acs.length
  ·obtain ⟨c, hc⟩ := acs_get hlt
   have hro := oBelow H.u.acs Hb.u
   have d1 := oCell hro (j := j * 2) (two_get (fun a : Ac => Value.int .i64 a.1) (fun a => .bool a.2) s.acs j c hc).1
   have d2 := oCell hro (j := j * 2 + 1) (two_get (fun a : Ac => Value.int .i64 a.1) (fun a => .bool a.2) s.acs j c hc).2
   have Hst := hI (opb_step (a := a) hc)
   obtain ⟨cp, cc⟩ := c
   simp only at d1 d2 Hst
   clear hro hc
   by_cases hcp : cp = a
   ·subst hcp
    cases cc with
    | true =>
     go_wp2_with fail
     go_roundg (s.acs.length - (j + 1))
     case measure => omega
     case rel => exact ⟨j + 1, by omega, rfl, by go_num, by show _ = _; rw [← Ho.u, Hst.u]; simp, Hb.u.alloc hsz _⟩
    | false =>
     go_wp2_with fail
     go_ret
     exact ⟨retB' (by rw [← Ho.u, Hst.u]; simp), Hb.u.alloc hsz _⟩
   ·have hne : (cp == a) = false := by simpa using hcp
    go_wp2_with fail
    go_roundg (s.acs.length - (j + 1))
    case measure => omega
    case rel => exact ⟨j + 1, by omega, rfl, by go_num, by show _ = _; rw [← Ho.u, Hst.u, hne]; simp, Hb.u.alloc hsz _⟩
  ·obtain rfl : j = s.acs.length := by omega
   go_wp2_with fail
   go_ret
   exact ⟨retB' (by rw [← Ho.u, List.drop_length]; rfl), Hb.u⟩
def Tab (w : World) : Prop := Lib.TabIs Tryz.prog w "internal/strconv.uint64pow10" .u64 Lib.pow10Tab
theorem Tab.below {w w' : World} (h : Tab w) (hb : Below w.heap.size w w') : Tab w' := Lib.tabBelow_of_tabIs h w' hb
theorem below_grow (w : World) (k : Nat) (os : Array Obj) : Below w.heap.size w (Go.Sort.grow (w.drewN k) os) := by
 refine ⟨rfl, rfl, rfl, by simp [Go.Sort.grow, World.drewN], fun j hj => ?_⟩
 show (w.heap ++ os)[j]? = w.heap[j]?
 rw [Array.getElem?_append_left hj]
theorem L_list (l : List UInt8) : L ⟨l.toArray⟩ = l := by simp [L]
theorem size_L (u : ByteArray) : u.size = (L u).length := (L_length u).symm
theorem itoa_any (n : Int) (w : World) (h0 : -9223372036854775808 ≤ n) (h1 : n ≤ 9223372036854775807) (ht : Tab w) :
  Calls Tryz.prog 29 #[.int .i64 n] w fun e w' => ∃ u : ByteArray, e = .returned (.string u) ∧ L u = Lib.itoa n ∧ Below w.heap.size w w' := by
 refine (Tryz.strconv_Itoa n h0 h1 w ht).mono ?_
 rintro e w' ⟨rfl, k, os, rfl⟩
 exact ⟨_, rfl, L_list _, below_grow w k os⟩
theorem itoa_pos {n : Int} (h : 0 ≤ n) : Lib.itoa n = Lib.decDigits n.toNat := by
 unfold Lib.itoa; rw [if_neg (by omega)]
theorem itoa_size {n : Int} (h0 : -9223372036854775808 ≤ n) (h1 : n ≤ 9223372036854775807) {u : ByteArray} (hu : L u = Lib.itoa n) : u.size ≤ 21 := by
 rw [size_L, hu]; exact Lib.itoa_length_le n h0 h1
theorem dec_size {n : Nat} (h1 : n ≤ 9223372036854775808) {u : ByteArray} (hu : L u = Lib.decDigits n) : u.size ≤ 21 := by
 by_cases h0 : n = 0
 ·exact itoa_size (n := (n : Int)) (by omega) (by omega) (by rw [hu, itoa_pos (by omega)]; rfl)
 ·have h2 := Lib.itoa_length_le (-(n : Int)) (by omega) (by omega)
  unfold Lib.itoa at h2
  rw [if_pos (by omega), show (-(n : Int)).natAbs = n by omega, List.length_cons] at h2
  rw [size_L, hu]; omega
theorem conv_one (c : UInt8) (W : World) (g : Nat) (h : W.cell? ⟨g, 0, none⟩ = some (.int .u8 (c.toNat : Int))) : (convert 187 9 (.slice (some ⟨g, 0, none⟩) 1 1)).run Tryz.prog W = .ok (.string ⟨#[c]⟩) W := by
 have := run_convert_bytes_back (P := Tryz.prog) W 187 9 5 ⟨g, 0, none⟩ 1 [c] Tryz.underlying187 Tryz.underlying5 Tryz.underlying9 (fun j hj => by
  have h0 : j = 0 := by simpa using hj
  subst h0
  exact h)
 exact this
theorem unsigned_any (k : Nat) : ∀ (u : Nat) (w : World), u < k → u ≤ 9223372036854775808 →
  Calls Tryz.prog 87 #[.int .u64 (u : Int)] w fun e w' => ∃ s : ByteArray, e = .returned (.string s) ∧ L s = Lib.decDigits u ∧ Below w.heap.size w w' := by
 induction k with
 | zero => intro u w h; omega
 | succ k ih =>
  intro u w hk hu
  obtain ⟨c, hc⟩ : ∃ c : UInt8, UInt8.ofNat (48 + u % 10) = c := ⟨_, rfl⟩
  have hcn : 48 + (u : Int) % 10 = (c.toNat : Int) := by
   rw [← hc]
   have : (UInt8.ofNat (48 + u % 10)).toNat = 48 + u % 10 := by simp; omega
   omega
  have hcv : (convert 187 9 (.slice (some ⟨w.heap.size, 0, none⟩) 1 1)).run Tryz.prog (w.alloc (.cells #[.int .u8 (48 + (u : Int) % 10)] 5)) = .ok (.string ⟨#[c]⟩) (w.alloc (.cells #[.int .u8 (48 + (u : Int) % 10)] 5)) :=
   conv_one c _ _ (by rw [hcn]; simp)
  have Hih := hI ih
  have Hc := hI hc
  clear ih hc hcn
  go_enter Tryz.func87, Tryz.ntmps87
  by_cases h10 : u < 10
  ·have hd : decide ((u : Int) < 10) = true := by simp; omega
   go_wp2_with fail
   go_ret
   refine ⟨_, rfl, ?_, (Below.refl _ _).alloc (Nat.le_refl _) _⟩
   unfold Lib.decDigits
   rw [dif_pos h10, ← Hc.u, Nat.mod_eq_of_lt h10]
   rfl
  ·have hd : decide ((u : Int) < 10) = false := by simp; omega
   go_wp2_with fail
   rw [show (u : Int) / 10 = ((u / 10 : Nat) : Int) by omega]
   refine (Hih.u (u / 10) _ (by omega) (by omega)).mono ?_
   rintro e w1 ⟨s, rfl, hs, hb⟩
   have hszz : s.size ≤ 21 := dec_size (by omega) hs
   have Hs := hI hs
   have Hb := hI hb
   clear hs hb
   go_wp2_with fail
   go_ret
   refine ⟨_, rfl, ?_, ?_⟩
   ·rw [L_append, Hs.u]
    conv => rhs; unfold Lib.decDigits
    rw [dif_neg h10, ← Hc.u]
    rfl
   ·exact ((Below.refl _ _).alloc (Nat.le_refl _) _).then' (by simp) Hb.u
theorem mag_neg (n : Nat) (w : World) (h1 : 1 ≤ n) (h : n ≤ 9223372036854775808) :
  Calls Tryz.prog 86 #[.int .i64 (-(n : Int))] w fun e w' => e = .returned (.int .u64 (n : Int)) ∧ w' = w := by
 have hd : decide (-(n : Int) < 0) = true := by simp; omega
 have hw1 : IntKind.u64.wrap (-(n : Int)) = 18446744073709551616 - (n : Int) := by unfold IntKind.wrap; simp [IntKind.bits, IntKind.signed]; omega
 have hw2 : IntKind.u64.wrap (-(18446744073709551616 - (n : Int))) = (n : Int) := by unfold IntKind.wrap; simp [IntKind.bits, IntKind.signed]; omega
 go_enter Tryz.func86, Tryz.ntmps86
 go_wp2_with fail
 go_ret
 exact ⟨rfl, rfl⟩
theorem number10_any (n : Int) (w : World) (h0 : -9223372036854775808 ≤ n) (h1 : n ≤ 9223372036854775807) :
  Calls Tryz.prog 49 #[.int .i64 n] w fun e w' => ∃ s : ByteArray, e = .returned (.string s) ∧ L s = Lib.itoa n ∧ Below w.heap.size w w' := by
 by_cases hn : n < 0
 ·obtain ⟨k, hk⟩ : ∃ k : Nat, n = -(k : Int) := ⟨n.natAbs, by omega⟩
  subst hk
  have hd : decide (-(k : Int) < 0) = true := by simp; omega
  have Hm := hI (mag_neg k w (by omega) (by omega))
  have Hit : Hid (Lib.itoa (-(k : Int)) = 45 :: Lib.decDigits k) := by
   show _ = _
   unfold Lib.itoa
   rw [if_pos hn, show (-(k : Int)).natAbs = k by omega]
  go_enter Tryz.func49, Tryz.ntmps49
  go_wp2_with fail
  refine Hm.u.mono ?_
  rintro e w1 ⟨rfl, rfl⟩
  go_wp2_with fail
  refine (unsigned_any (k + 1) k _ (by omega) (by omega)).mono ?_
  rintro e w2 ⟨s, rfl, hs, hb⟩
  have hszz : s.size ≤ 21 := dec_size (by omega) hs
  have Hs := hI hs
  have Hb := hI hb
  clear hs hb
  go_wp2_with fail
  go_ret
  exact ⟨_, rfl, by rw [L_append, Hs.u, Hit.u]; rfl, Hb.u⟩
 ·obtain ⟨k, rfl⟩ : ∃ k : Nat, n = (k : Int) := ⟨n.toNat, by omega⟩
  have hd : decide ((k : Int) < 0) = false := by simp
  go_enter Tryz.func49, Tryz.ntmps49
  go_wp2_with fail
  refine (unsigned_any (k + 1) k _ (by omega) (by omega)).mono ?_
  rintro e w1 ⟨s, rfl, hs, hb⟩
  have Hs := hI hs
  have Hb := hI hb
  clear hs hb
  go_wp2_with fail
  go_ret
  exact ⟨s, rfl, by rw [Hs.u, itoa_pos (by omega)]; rfl, Hb.u⟩
end Go.Proofs.YtdchbenfccofpaaGreatDoor
namespace Db
abbrev Cl := Int × Int
def inR (v : Int) : Bool := decide (-9223372036854775808 ≤ v) && decide (v ≤ 9223372036854775807)
def chk (v : Int) : Cl := if inR v then (v, 0) else (0, 111)
def don (o : Int) (x y : Cl) : Cl :=
 if x.2 == 0 then (if y.2 == 0 then (if o == 43 then chk (x.1 + y.1) else if o == 45 then chk (x.1 - y.1) else if o == 42 then chk (x.1 * y.1) else if y.1 == 0 then (0, 122) else chk (x.1.tdiv y.1)) else y) else x
theorem inR_iff {v : Int} : inR v = true ↔ -9223372036854775808 ≤ v ∧ v ≤ 9223372036854775807 := by unfold inR; simp
theorem inR_no {v : Int} : inR v = false ↔ v < -9223372036854775808 ∨ 9223372036854775807 < v := by
 unfold inR; simp; omega
def Is (v s : Int) : Prop := inR v = true → s = v
end Db
namespace Go.Proofs.YtdchbenfccofpaaGreatDoor
open Go.RowKit Db
theorem wrapIn {v : Int} (h : inR v = true) : IntKind.i64.wrap v = v := by
 have := inR_iff.1 h
 rw [IntKind.wrap_i64]; omega
theorem wrapUp {v : Int} (h : 9223372036854775807 < v) (h2 : v ≤ 18446744073709551614) : IntKind.i64.wrap v = v - 18446744073709551616 := by rw [IntKind.wrap_i64]; omega
theorem wrapDn {v : Int} (h : v < -9223372036854775808) (h2 : -18446744073709551616 ≤ v) : IntKind.i64.wrap v = v + 18446744073709551616 := by rw [IntKind.wrap_i64]; omega
theorem retP {a b : Int} {x y : Bool} (h : a = b) (k : x = y) : Ending.returned (.tuple #[.int .i64 a, .bool x]) = .returned (.tuple #[.int .i64 b, .bool y]) := by rw [h, k]
theorem refSum_any (a b : Int) (w : World) (ha : inR a = true) (hb : inR b = true) :
  Calls Tryz.prog 162 #[.int .i64 a, .int .i64 b] w fun e w' => ∃ s, e = .returned (.tuple #[.int .i64 s, .bool (inR (a + b))]) ∧ Is (a + b) s ∧ w' = w := by
 obtain ⟨a0, a1⟩ := inR_iff.1 ha
 obtain ⟨b0, b1⟩ := inR_iff.1 hb
 obtain ⟨s, hs⟩ : ∃ s, IntKind.i64.wrap (a + b) = s := ⟨_, rfl⟩
 obtain ⟨r, hr⟩ : ∃ r, inR (a + b) = r := ⟨_, rfl⟩
 have key : (r = true ∧ s = a + b) ∨ (r = false ∧ 0 ≤ a ∧ 0 ≤ b ∧ s < 0) ∨ (r = false ∧ a < 0 ∧ b < 0 ∧ 0 ≤ s) := by
  cases r with
  | true => exact .inl ⟨rfl, by rw [← hs, wrapIn hr]⟩
  | false =>
   rcases inR_no.1 hr with h | h
   ·right; right; rw [← hs, wrapDn h (by omega)]; exact ⟨rfl, by omega, by omega, by omega⟩
   ·right; left; rw [← hs, wrapUp h (by omega)]; exact ⟨rfl, by omega, by omega, by omega⟩
 have HI : Hid (Is (a + b) s) := fun h => by rw [← hs, wrapIn h]
 have Hr := hI hr
 have Hk := hI key
 rw [hr]
 clear ha hb hr key
 by_cases ha : a < 0 <;> by_cases hb : b < 0 <;> by_cases hss : s < 0
 all_goals
  go_enter Tryz.func162, Tryz.ntmps162
  go_wp2_with fail
  go_ret2
  refine ⟨s, retP rfl ?_, HI.u, rfl⟩
  rcases Hk.u with ⟨rfl, h2⟩ | ⟨rfl, h2, h3, h4⟩ | ⟨rfl, h2, h3, h4⟩
  all_goals first
   | rfl
   | (exfalso; omega)
end Go.Proofs.YtdchbenfccofpaaGreatDoor
