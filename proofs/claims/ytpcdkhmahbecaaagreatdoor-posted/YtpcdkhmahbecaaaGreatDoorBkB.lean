/- Books as they lie in memory: the program's and the document's. New, and Open. -/
import Derived.Test.YtpcdkhmahbecaaaGreatDoorLeaf
import Derived.Test.YtpcdkhmahbecaaaGreatDoorFrT
import Derived.Test.YtpcdkhmahbecaaaGreatDoorBkA
import Derived.WalkSmall
namespace Go.Proofs.YtpcdkhmahbecaaaGreatDoor
open Go.RowKit Db

def cellsA (l : List Ac) : List Value := l.flatMap fun a => [.int .i64 a.1, .bool a.2]
def cellsL (l : List Ln) : List Value := l.flatMap fun a => [.int .i64 a.1, .int .i64 a.2]
def cellsT (l : List (Tn × Value)) : List Value := l.flatMap fun a => [.int .i64 a.1.1, .int .i64 a.1.2.1, a.2]
theorem cellsA_snoc (l : List Ac) (a : Ac) : cellsA (l ++ [a]) = cellsA l ++ [.int .i64 a.1, .bool a.2] := by simp [cellsA]
theorem cellsL_snoc (l : List Ln) (a : Ln) : cellsL (l ++ [a]) = cellsL l ++ [.int .i64 a.1, .int .i64 a.2] := by simp [cellsL]
theorem cellsT_snoc (l : List (Tn × Value)) (a : Tn × Value) : cellsT (l ++ [a]) = cellsT l ++ [.int .i64 a.1.1, .int .i64 a.1.2.1, a.2] := by simp [cellsT]
theorem two_get {α : Type} (f g : α → Value) (l : List α) : ∀ (k : Nat) (a : α), l[k]? = some a → (l.flatMap fun x => [f x, g x])[k * 2]? = some (f a) ∧ (l.flatMap fun x => [f x, g x])[k * 2 + 1]? = some (g a) := by
  induction l with
  | nil => intro k a h; simp at h
  | cons x t ih =>
    intro k a h
    cases k with
    | zero => simp at h; subst h; simp
    | succ k =>
      simp only [List.getElem?_cons_succ] at h
      have := ih k a h
      simp only [List.flatMap_cons, List.cons_append, List.nil_append]
      rw [show (k + 1) * 2 = k * 2 + 1 + 1 by omega, show k * 2 + 1 + 1 + 1 = (k * 2 + 1) + 1 + 1 by omega]
      simpa using this
theorem three_get {α : Type} (f g h : α → Value) (l : List α) : ∀ (k : Nat) (a : α), l[k]? = some a → (l.flatMap fun x => [f x, g x, h x])[k * 3]? = some (f a) ∧ (l.flatMap fun x => [f x, g x, h x])[k * 3 + 1]? = some (g a) ∧ (l.flatMap fun x => [f x, g x, h x])[k * 3 + 2]? = some (h a) := by
  induction l with
  | nil => intro k a h; simp at h
  | cons x t ih =>
    intro k a hk
    cases k with
    | zero => simp at hk; subst hk; simp
    | succ k =>
      simp only [List.getElem?_cons_succ] at hk
      have := ih k a hk
      simp only [List.flatMap_cons, List.cons_append, List.nil_append]
      rw [show (k + 1) * 3 = k * 3 + 1 + 1 + 1 by omega, show k * 3 + 1 + 1 + 1 + 1 = (k * 3 + 1) + 1 + 1 + 1 by omega, show k * 3 + 1 + 1 + 1 + 2 = (k * 3 + 2) + 1 + 1 + 1 by omega]
      simpa using this

/-- A journal: the transactions' cells, and each one's lines. -/
structure Txs (w : World) (B : Nat) (T : TypeId) (vt : Value) (tv : List (Tn × Value)) : Prop where
  own : w.ownsRow B T 3 vt tv.length (cellsT tv)
  lns : ∀ x ∈ tv, w.ownsRow B 52 2 x.2 x.1.2.2.length (cellsL x.1.2.2)
theorem Txs.frT {w w' : World} {B B' : Nat} {T : TypeId} {vt : Value} {tv : List (Tn × Value)} {Ts : List TypeId} (h : Txs w B T vt tv) (hf : FrT B' Ts w w') (h1 : T ∉ Ts) (h2 : 52 ∉ Ts) : Txs w' B T vt tv :=
  ⟨ownsRow_frT h.own hf h1, fun x hx => ownsRow_frT (h.lns x hx) hf h2⟩
theorem Txs.kept {w w' : World} {B : Nat} {T : TypeId} {vt : Value} {tv : List (Tn × Value)} (h : Txs w B T vt tv) (hb : Below w.heap.size w w') : Txs w' B T vt tv :=
  h.frT (FrT.of_below (B := 0) (Ts := []) hb) (by simp) (by simp)

/-- The program's book, at the pointer p. -/
structure LedAt (w : World) (B p : Nat) (va vt : Value) (tv : List (Tn × Value)) (s : Bk) : Prop where
  blk : Blk w p #[va, vt] 65
  lo : B ≤ p
  acs : w.ownsRow B 96 2 va s.acs.length (cellsA s.acs)
  txs : Txs w B 101 vt tv
  jr : tv.map (·.1) = s.txs
  good : BkGood s
/-- The types of what the program's book writes to. -/
def tP : List TypeId := [65, 96, 101]
def Led (w : World) (B p : Nat) (s : Bk) : Prop := ∃ va vt tv, LedAt w B p va vt tv s
theorem LedAt.frT {w w' : World} {B B' p : Nat} {va vt : Value} {tv : List (Tn × Value)} {s : Bk} {Ts : List TypeId} (h : LedAt w B p va vt tv s) (hf : FrT B' Ts w w') (h1 : ∀ T ∈ tP, T ∉ Ts) (h2 : 52 ∉ Ts) : LedAt w' B p va vt tv s :=
  ⟨h.blk.frT hf (h1 _ (by simp [tP])), h.lo, ownsRow_frT h.acs hf (h1 _ (by simp [tP])), h.txs.frT hf (h1 _ (by simp [tP])) h2, h.jr, h.good⟩
theorem LedAt.kept {w w' : World} {B p : Nat} {va vt : Value} {tv : List (Tn × Value)} {s : Bk} (h : LedAt w B p va vt tv s) (hb : Below w.heap.size w w') : LedAt w' B p va vt tv s :=
  h.frT (FrT.of_below (B := 0) (Ts := []) hb) (by simp) (by simp)

/-- The document's book. -/
structure RefAt (w : World) (B p : Nat) (vp vc vt : Value) (tv : List (Tn × Value)) (s : Bk) : Prop where
  blk : Blk w p #[vp, vc, vt] 47
  lo : B ≤ p
  par : w.ownsRow B 3 1 vp s.acs.length (s.acs.map fun a => .int .i64 a.1)
  clo : w.ownsRow B 4 1 vc s.acs.length (s.acs.map fun a => .bool a.2)
  txs : Txs w B 50 vt tv
  jr : tv.map (·.1) = s.txs
  good : BkGood s
def tR : List TypeId := [47, 3, 4, 50]
def Rfd (w : World) (B p : Nat) (s : Bk) : Prop := ∃ vp vc vt tv, RefAt w B p vp vc vt tv s
theorem RefAt.frT {w w' : World} {B B' p : Nat} {vp vc vt : Value} {tv : List (Tn × Value)} {s : Bk} {Ts : List TypeId} (h : RefAt w B p vp vc vt tv s) (hf : FrT B' Ts w w') (h1 : ∀ T ∈ tR, T ∉ Ts) (h2 : 52 ∉ Ts) : RefAt w' B p vp vc vt tv s :=
  ⟨h.blk.frT hf (h1 _ (by simp [tR])), h.lo, ownsRow_frT h.par hf (h1 _ (by simp [tR])), ownsRow_frT h.clo hf (h1 _ (by simp [tR])), h.txs.frT hf (h1 _ (by simp [tR])) h2, h.jr, h.good⟩
theorem RefAt.kept {w w' : World} {B p : Nat} {vp vc vt : Value} {tv : List (Tn × Value)} {s : Bk} (h : RefAt w B p vp vc vt tv s) (hb : Below w.heap.size w w') : RefAt w' B p vp vc vt tv s :=
  h.frT (FrT.of_below (B := 0) (Ts := []) hb) (by simp) (by simp)

theorem owns_new {w : World} {B g : Nat} {e : TypeId} {size n : Nat} {cs : Array Value} (h : w.heap[g]? = some (.cells cs e (0, 0))) (hB : B ≤ g) (hn : n ≤ maxLen) (hs : cs.size = n * size) : w.ownsRow B e size (.slice (some ⟨g, 0, none⟩) n n) n cs.toList :=
  ⟨by simpa using hs, .inr ⟨g, n, cs, rfl, hB, h, Nat.le_refl _, hn, hs, by rw [← hs]; exact List.take_of_length_le (by simp)⟩⟩

set_option maxRecDepth 100000 in
set_option maxHeartbeats 1000000 in
theorem ledNew_any (w : World) :
    Calls Tryz.prog 62 #[] w fun e w' => ∃ g, e = .returned (.agg #[.slice (some ⟨g, 0, none⟩) 1 1, .slice none 0 0]) ∧ w'.ownsRow w.heap.size 96 2 (.slice (some ⟨g, 0, none⟩) 1 1) 1 (cellsA bk0.acs) ∧ Below w.heap.size w w' := by
  go_enter Tryz.func62, Tryz.ntmps62
  go_wp2_with fail
  refine bodyPost_ret (v := .agg #[.slice (some ⟨w.heap.size + 1, 0, none⟩) 1 1, .slice none 0 0]) (by simp [results, Tryz.results62, go_sem]) rfl ⟨_, rfl, ?_, ?_⟩
  · exact owns_new (cs := #[.int .i64 (-1), .bool false]) (by simpa using heap_alloc_new (w.alloc _) _) (by omega) (by unfold maxLen; omega) rfl
  · exact ((Below.refl _ _).alloc (Nat.le_refl _) _).alloc (by simp) _

set_option maxRecDepth 100000 in
set_option maxHeartbeats 1000000 in
theorem dayNew_any (w : World) :
    Calls Tryz.prog 35 #[] w fun e w' => ∃ p, e = .returned (.pointer (some ⟨p, 0, none⟩)) ∧ Led w' w.heap.size p bk0 ∧ Below w.heap.size w w' := by
  go_enter Tryz.func35, Tryz.ntmps35
  go_wp2_with fail
  refine (ledNew_any _).mono ?_
  rintro e w1 ⟨g, rfl, hg, hb⟩
  have Hg := hide hg
  have Hb := hide hb
  have hsz := hb.size
  clear hg hb
  go_wp2_with fail
  go_ret
  exact ⟨_, rfl, ⟨.slice (some ⟨g, 0, none⟩) 1 1, .slice none 0 0, [], Blk.new _ _ _, hsz, (unhide Hg).alloc _, ⟨World.ownsRow_nil _ _ _ _, by simp⟩, rfl, good0⟩, (unhide Hb).alloc hsz _⟩

set_option maxRecDepth 100000 in
set_option maxHeartbeats 1000000 in
theorem refNew_any (w : World) :
    Calls Tryz.prog 6 #[] w fun e w' => ∃ p, e = .returned (.pointer (some ⟨p, 0, none⟩)) ∧ Rfd w' w.heap.size p bk0 ∧ Below w.heap.size w w' := by
  go_enter Tryz.func6, Tryz.ntmps6
  go_wp2_with fail
  go_ret
  refine ⟨w.heap.size + 1 + 1, rfl, ⟨.slice (some ⟨w.heap.size, 0, none⟩) 1 1, .slice (some ⟨w.heap.size + 1, 0, none⟩) 1 1, .slice none 0 0, [], ?_, by omega, ?_, ?_, ⟨World.ownsRow_nil _ _ _ _, by simp⟩, rfl, good0⟩, ?_⟩
  · have := Blk.new ((w.alloc (Obj.cells #[Value.int IntKind.i64 (-1)] 3)).alloc (Obj.cells #[Value.bool false] 4)) #[.slice (some ⟨w.heap.size, 0, none⟩) 1 1, .slice (some ⟨w.heap.size + 1, 0, none⟩) 1 1, .slice none 0 0] 47
    simpa using this
  · exact owns_new (cs := #[.int .i64 (-1)]) (((Blk.new w #[.int .i64 (-1)] 3).alloc _).alloc _) (by omega) (by unfold maxLen; omega) rfl
  · exact owns_new (cs := #[.bool false]) (by simpa [Blk] using (Blk.new (w.alloc (Obj.cells #[Value.int IntKind.i64 (-1)] 3)) #[.bool false] 4).alloc (Obj.cells #[.slice (some ⟨w.heap.size, 0, none⟩) 1 1, .slice (some ⟨w.heap.size + 1, 0, none⟩) 1 1, .slice none 0 0] 47)) (by omega) (by unfold maxLen; omega) rfl
  · exact (((Below.refl _ _).alloc (Nat.le_refl _) _).alloc (by simp) _).alloc (by simp; omega) _

end Go.Proofs.YtpcdkhmahbecaaaGreatDoor
