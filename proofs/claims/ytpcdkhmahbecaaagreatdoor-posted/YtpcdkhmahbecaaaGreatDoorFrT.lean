/- Worlds: all blocks are as they were, but for those from B on that bear one of some types. -/
import Derived.Test.YtpcdkhmahbecaaaGreatDoorFrm
namespace Go.RowKit

/-- Block k bears the type T. -/
def Tg (w : World) (k : Nat) (T : TypeId) : Prop := ∃ cs fz, w.heap[k]? = some (.cells cs T fz)
structure FrT (B : Nat) (Ts : List TypeId) (w w' : World) : Prop where
  os : w'.os = w.os
  tape : w'.tape = w.tape
  output : w'.output = w.output
  size : w.heap.size ≤ w'.heap.size
  block : ∀ k, k < w.heap.size → (B ≤ k → ∀ T ∈ Ts, ¬ Tg w k T) → w'.heap[k]? = w.heap[k]?

section
variable {B : Nat} {Ts : List TypeId} {a b c w w' : World}
theorem FrT.refl (B : Nat) (Ts : List TypeId) (w : World) : FrT B Ts w w := ⟨rfl, rfl, rfl, Nat.le_refl _, fun _ _ _ => rfl⟩
theorem FrT.trans (h : FrT B Ts a b) (k : FrT B Ts b c) : FrT B Ts a c :=
  ⟨k.os.trans h.os, k.tape.trans h.tape, k.output.trans h.output, Nat.le_trans h.size k.size, fun i hi hx => by
    have h1 := h.block i hi hx
    rw [k.block i (Nat.lt_of_lt_of_le hi h.size) (fun hB T hT ⟨cs, fz, hg⟩ => hx hB T hT ⟨cs, fz, by rw [← h1]; exact hg⟩), h1]⟩
theorem FrT.mono {Us : List TypeId} (h : FrT B Ts a b) (hs : ∀ T ∈ Ts, T ∈ Us) : FrT B Us a b :=
  ⟨h.os, h.tape, h.output, h.size, fun k hk hx => h.block k hk (fun hB T hT => hx hB T (hs T hT))⟩
theorem FrT.base {B' : Nat} (h : FrT B Ts a b) (hB : B' ≤ B) : FrT B' Ts a b :=
  ⟨h.os, h.tape, h.output, h.size, fun k hk hx => h.block k hk (fun hb => hx (Nat.le_trans hB hb))⟩
theorem FrT.of_below (h : Below a.heap.size a b) : FrT B Ts a b := ⟨h.os, h.tape, h.output, h.size, fun k hk _ => h.block k hk⟩
theorem FrT.then (h : FrT B Ts a b) (k : Below b.heap.size b c) : FrT B Ts a c := h.trans (FrT.of_below k)
theorem FrT.below (h : FrT B Ts a b) (hB : B ≤ a.heap.size) : Below B a b :=
  ⟨h.os, h.tape, h.output, h.size, fun k hk => h.block k (Nat.lt_of_lt_of_le hk hB) (fun h => by omega)⟩
theorem FrT.drewN (h : FrT B Ts a b) (n : Nat) : FrT B Ts a (b.drewN n) := ⟨h.os, h.tape, h.output, h.size, h.block⟩
theorem FrT.drew (h : FrT B Ts a b) : FrT B Ts a b.drew := ⟨h.os, h.tape, h.output, h.size, h.block⟩
theorem FrT.undrew (h : FrT B Ts a.drew b) : FrT B Ts a b := ⟨h.os, h.tape, h.output, h.size, h.block⟩
theorem FrT.undrewN {n : Nat} (h : FrT B Ts (a.drewN n) b) : FrT B Ts a b := ⟨h.os, h.tape, h.output, h.size, h.block⟩
theorem FrT.alloc (h : FrT B Ts a b) (o : Obj) : FrT B Ts a (b.alloc o) := h.then ((Below.refl _ _).alloc (Nat.le_refl _) _)
theorem FrT.setCell (h : FrT B Ts a b) {p : Addr} {T : TypeId} (hT : T ∈ Ts) (hg : Tg b p.block T) (hp : B ≤ p.block) (u : Value) : FrT B Ts a (b.setCell p u) :=
  h.trans ⟨rfl, rfl, rfl, by simp [World.setCell], fun k hk hx => Below.heap_setCell _ _ _ _ (by rintro rfl; exact hx hp T hT hg)⟩
theorem FrT.grown {row : Option Nat} {T : TypeId} (h : FrT B Ts a b) (hg : b.grownBy c row) (hT : T ∈ Ts) (hr : ∀ k, row = some k → B ≤ k ∧ Tg b k T) : FrT B Ts a c :=
  h.trans ⟨hg.os, hg.tape, hg.output, hg.size, fun k hk hx => hg.block k hk (fun e => by
    have h1 := hr k e.symm
    exact hx h1.1 T hT h1.2)⟩
theorem Blk.tg {n : Nat} {cs : Array Value} {T : TypeId} (h : Blk w n cs T) : Tg w n T := ⟨cs, (0, 0), h⟩
theorem Blk.frT {n : Nat} {cs : Array Value} {T : TypeId} (h : Blk w n cs T) (hf : FrT B Ts w w') (hT : T ∉ Ts) : Blk w' n cs T := by
  have hl := h.lt
  unfold Blk at h ⊢
  rw [hf.block n hl (fun _ U hU ⟨ds, fz, hg⟩ => by rw [h] at hg; simp at hg; exact hT (hg.2.1 ▸ hU))]; exact h
theorem ownsRow_tg {base : Nat} {e : TypeId} {size : Nat} {v : Value} {n : Nat} {xs : List Value} (h : w.ownsRow base e size v n xs) : ∀ k, v.ownBlock = some k → base ≤ k ∧ Tg w k e := by
  intro k hk
  rcases h.2 with ⟨rfl, _⟩ | ⟨g, cap, cur, rfl, hbg, hgg, _⟩
  · simp [Value.ownBlock] at hk
  · simp only [Value.ownBlock, Option.some.injEq] at hk
    subst hk
    exact ⟨hbg, cur, _, hgg⟩
theorem ownsRow_frT {base : Nat} {e : TypeId} {size : Nat} {v : Value} {n : Nat} {xs : List Value} (h : w.ownsRow base e size v n xs) (hf : FrT B Ts w w') (he : e ∉ Ts) : w'.ownsRow base e size v n xs := by
  refine ⟨h.1, ?_⟩
  rcases h.2 with hn | ⟨g, cap, cur, rfl, hbg, hgg, rest⟩
  · exact .inl hn
  · refine .inr ⟨g, cap, cur, rfl, hbg, ?_, rest⟩
    rw [hf.block g (Array.getElem?_eq_some_iff.1 hgg).1 (fun _ U hU ⟨ds, fz, hg⟩ => by rw [hgg] at hg; simp at hg; exact he (hg.2.1 ▸ hU))]
    exact hgg
end
end Go.RowKit
