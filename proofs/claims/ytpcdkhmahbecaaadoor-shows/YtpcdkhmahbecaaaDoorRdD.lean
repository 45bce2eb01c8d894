/- Walks of the reader: periods. -/
import Derived.Test.YtpcdkhmahbecaaaDoorRdC
namespace Db

/-- Some periods have been read, each with its comma. -/
structure PerSt (l l' : List UInt8) (pd : List (List UInt8 × List UInt8)) : Prop where
  ex : ∃ x, l = x ++ l' ∧ (∀ i : Int, plc 0 0 0 i l = plc 0 0 0 (i + x.length) l') ∧ (∀ r, split (bare x ++ r) 44 = pd.map (fun p => p.1 ++ 45 :: p.2) ++ split r 44) ∧ ∀ c ∈ bare x, ¬ c.toNat = 124
  days : ∀ p ∈ pd, dayS p.1 ∧ dayS p.2
/-- All periods have been read, and the bar. -/
structure PerEnd (l : List UInt8) (ok : Bool) (l' : List UInt8) (pd : List (List UInt8 × List UInt8)) : Prop where
  ex : ∃ x, l = x ++ l' ∧ (ok = true → (∀ i : Int, plc 0 0 0 i l = plc 6 0 0 (i + x.length) l') ∧ ∃ y, bare x = y ++ [124] ∧ split y 44 = pd.map (fun p => p.1 ++ 45 :: p.2) ∧ ∀ c ∈ y, ¬ c.toNat = 124) ∧
    (ok = false → ∀ i : Int, plc 0 0 0 i l = i + x.length)
  days : ok = true → ∀ p ∈ pd, dayS p.1 ∧ dayS p.2

theorem PerSt.start (l : List UInt8) : PerSt l l [] := ⟨⟨[], rfl, fun i => by simp, fun r => by simp [bare], by simp [bare]⟩, by simp⟩
theorem seg_ne {a b : List UInt8} (ha : dayS a) (hb : dayS b) (k : UInt8) (hk : digB k.toNat = false) (h45 : ¬ k = 45) : ∀ c ∈ a ++ 45 :: b, c ≠ k := by
  intro c hc
  rw [List.mem_append, List.mem_cons] at hc
  rcases hc with hc | rfl | hc
  · exact dayS_ne ha k hk c hc
  · exact fun e => h45 e.symm
  · exact dayS_ne hb k hk c hc
theorem seg_124 {a b : List UInt8} (ha : dayS a) (hb : dayS b) : ∀ c ∈ a ++ 45 :: b, ¬ c.toNat = 124 := by
  intro c hc h
  exact seg_ne ha hb 124 rfl (by decide) c hc (UInt8.toNat_inj.1 (by rw [h]; rfl))
theorem u8_44 {c : UInt8} (h : (c.toNat : Int) = 44) : c = 44 := UInt8.toNat_inj.1 (by simp; omega)
theorem u8_124 {c : UInt8} (h : (c.toNat : Int) = 124) : c = 124 := UInt8.toNat_inj.1 (by simp; omega)

theorem PerSt.no {l l1 l' : List UInt8} {pd : List (List UInt8 × List UInt8)} {a b : List UInt8} (h : PerSt l l1 pd) (hp : Per l1 false l' a b) (pd' : List (List UInt8 × List UInt8)) : PerEnd l false l' pd' := by
  obtain ⟨x, rfl, h1, h2, h3⟩ := h.ex
  obtain ⟨y, rfl, g1, g2⟩ := hp
  refine ⟨⟨x ++ y, by simp, (fun h0 => by cases h0), fun _ i => ?_⟩, (fun h0 => by cases h0)⟩
  rw [h1, g2 rfl]; simp; omega
theorem PerSt.comma {l l1 y r : List UInt8} {pd : List (List UInt8 × List UInt8)} {a b : List UInt8} {c : UInt8} (h : PerSt l l1 pd) (hp : Per l1 true (y ++ c :: r) a b) (hy : Blanks y) (hc : (c.toNat : Int) = 44) : PerSt l r (pd ++ [(a, b)]) := by
  obtain ⟨x, rfl, h1, h2, h3⟩ := h.ex
  obtain ⟨z, rfl, g1, g2⟩ := hp
  obtain ⟨ha, hb, hbare, hst, hplc⟩ := g1 rfl
  refine ⟨⟨x ++ z ++ y ++ [c], by simp, fun i => ?_, fun q => ?_, ?_⟩, ?_⟩
  · rw [h1, hplc, plc_comma y hy c hc]
    congr 1
    simp; omega
  · simp only [bare_append, hbare, bare_blanks hy, u8_44 hc, List.append_nil]
    rw [show bare [44] = [44] from rfl]
    simp only [List.append_assoc]
    rw [h2]
    rw [show (a ++ ((45 :: b) ++ ([44] ++ q))) = (a ++ 45 :: b) ++ 44 :: q by simp, split_cons 44 _ q (seg_ne ha hb 44 rfl (by decide))]
    simp
  · intro k hk
    simp only [bare_append, hbare, bare_blanks hy, u8_44 hc, List.append_nil, List.mem_append] at hk
    rcases hk with (hk | hk) | hk
    · exact h3 k hk
    · exact seg_124 ha hb k (by simpa using hk)
    · rw [show bare [44] = [44] from rfl] at hk
      simp at hk; subst hk; decide
  · intro p hp
    simp at hp
    rcases hp with hp | rfl
    · exact h.days p hp
    · exact ⟨ha, hb⟩
theorem PerSt.bar {l l1 y r : List UInt8} {pd : List (List UInt8 × List UInt8)} {a b : List UInt8} {c : UInt8} (h : PerSt l l1 pd) (hp : Per l1 true (y ++ c :: r) a b) (hy : Blanks y) (hc : (c.toNat : Int) = 124) : PerEnd l true r (pd ++ [(a, b)]) := by
  obtain ⟨x, rfl, h1, h2, h3⟩ := h.ex
  obtain ⟨z, rfl, g1, g2⟩ := hp
  obtain ⟨ha, hb, hbare, hst, hplc⟩ := g1 rfl
  refine ⟨⟨x ++ z ++ y ++ [c], by simp, fun _ => ⟨fun i => ?_, bare x ++ (a ++ 45 :: b), ?_, ?_, ?_⟩, (fun h0 => by cases h0)⟩, ?_⟩
  · rw [h1, hplc, plc_bar y hy c hc]
    congr 1
    simp; omega
  · simp only [bare_append, hbare, bare_blanks hy, u8_124 hc, List.append_nil]
    rw [show bare [124] = [124] from rfl]
  · rw [h2, split_one 44 _ (seg_ne ha hb 44 rfl (by decide))]
    simp
  · intro k hk
    rw [List.mem_append] at hk
    rcases hk with hk | hk
    · exact h3 k hk
    · exact seg_124 ha hb k hk
  · intro _ p hp
    simp at hp
    rcases hp with hp | rfl
    · exact h.days p hp
    · exact ⟨ha, hb⟩
theorem PerSt.nobar {l l1 y l' : List UInt8} {pd : List (List UInt8 × List UInt8)} {a b : List UInt8} (h : PerSt l l1 pd) (hp : Per l1 true (y ++ l') a b) (hy : Blanks y) (h32 : ¬ hd l' = 32) (h44 : ¬ hd l' = 44) (h124 : ¬ hd l' = 124) (pd' : List (List UInt8 × List UInt8)) : PerEnd l false l' pd' := by
  obtain ⟨x, rfl, h1, h2, h3⟩ := h.ex
  obtain ⟨z, rfl, g1, g2⟩ := hp
  obtain ⟨ha, hb, hbare, hst, hplc⟩ := g1 rfl
  refine ⟨⟨x ++ z ++ y, by simp, (fun h0 => by cases h0), fun _ i => ?_⟩, (fun h0 => by cases h0)⟩
  rw [h1, hplc, plc_barNo y l' hy _ _ _ (by rcases hst with h | h; left; omega; right; exact h) h32 h44 h124]
  simp; omega

end Db
