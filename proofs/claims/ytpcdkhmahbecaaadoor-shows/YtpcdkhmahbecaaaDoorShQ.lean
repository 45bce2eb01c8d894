/- Proved: for every text the law daybooklaw.Shows returns true: what daybook.Show answers (the plain form and the error) is what the document's own answer gives. No condition: every string. (The card: the three tables of the standard library that strconv.Itoa reads are tied to the program's text.) -/
import Derived.Test.YtpcdkhmahbecaaaDoorRefP
import Derived.Test.YtpcdkhmahbecaaaDoorShG
import Derived.Test.YtpcdkhmahbecaaaDoorChE
import Derived.Test.YtpcdkhmahbecaaaDoorShL
namespace Go.Proofs.YtpcdkhmahbecaaaDoor
open Go.RowKit Db

/-- What Show answers. -/
def ShowIs (s u : ByteArray) (er : Int) : Prop :=
  (200 < s.size ∧ er = 1 ∧ u = ⟨#[]⟩) ∨ (s.size ≤ 200 ∧ er = 2 ∧ 0 ≤ plc 0 0 0 0 (L s) ∧ u = ⟨#[]⟩) ∨
  (s.size ≤ 200 ∧ ∃ pd rows pss pl, Db.Form (L s) pd rows pss ∧ outc (pdv pd) pss = (er, pl) ∧ ((¬ er = 0 ∧ u = ⟨#[]⟩) ∨ (er = 0 ∧ L u = shT pd pss ∧ ∀ ps ∈ pss, ps.length ≤ 200)))

set_option maxRecDepth 100000 in
set_option maxHeartbeats 1000000 in
theorem dayShow_any (s : ByteArray) (w : World) (hm : s.size ≤ maxLen) (ht : Tab w) :
    Calls Tryd.prog 5 #[.string s] w fun e w' => ∃ (u : ByteArray) (er : Int), e = .returned (.tuple #[.string u, .int .i64 er]) ∧ ShowIs s u er ∧ Below w.heap.size w w' := by
  by_cases hs : 200 < s.size
  · go_enter Tryd.func5, Tryd.ntmps5
    go_wp2_with fail
    refine (read_long s _ hs hm).mono ?_
    rintro e w1 ⟨rfl, hb⟩
    have Hb := hide hb
    have hsz := hb.size
    clear hb
    go_wp2_with fail
    go_ret2
    exact ⟨_, 1, rfl, .inl ⟨hs, rfl, rfl⟩, (unhide Hb).alloc hsz _⟩
  · have hs' : s.size ≤ 200 := by omega
    have Ht := hide ht
    clear ht
    go_enter Tryd.func5, Tryd.ntmps5
    go_wp2_with fail
    refine (read_short s _ hs').mono ?_
    rintro e w1 ⟨hb, ⟨p, rfl, hp, hp0⟩ | ⟨vp, vr, pd, rows, pss, er, pl, rfl, hf, ho, hz, hok⟩⟩
    · have Hb := hide hb
      have hsz := hb.size
      have Hc : Hid (ShowIs s ⟨#[]⟩ 2) := .inr (.inl ⟨hs', rfl, by rw [hp]; exact hp0, rfl⟩)
      clear hb hp
      go_wp2_with fail
      go_ret2
      exact ⟨_, 2, rfl, unhide Hc, (unhide Hb).alloc hsz _⟩
    · have Hb := hide hb
      have hsz := hb.size
      by_cases h0 : er = 0
      · subst h0
        obtain ⟨hvp, vs, hvr⟩ := hok rfl
        obtain ⟨a1, k1, rfl⟩ := ownsRow_form hvp
        obtain ⟨a2, k2, rfl⟩ := ownsRow_form hvr.own
        have hsm := outc_small ho rfl
        have hpl : pd.length ≤ 4 := by have := hsm.1; simpa [pdv] using this
        have hvl : vs.length ≤ 8 := by rw [hvr.len]; exact hsm.2.1
        have Hf := hide hf
        have Ho := hide ho
        have Hvp := hide hvp
        have Hvr := hide hvr
        clear hb hf ho hz hok hvp hvr hsm
        go_wp2_with fail
        refine (repShow_any _ _ pd vs pss w.heap.size _ (by exact (unhide Hvp).alloc _) (by exact (unhide Hvr).kept ((Below.refl _ _).alloc (Nat.le_refl _) _)) (unhide Hf).sht.days ?_ hpl hvl ((unhide Ht).below (by exact (unhide Hb).alloc hsz _))).mono ?_
        · intro i ps hps
          obtain ⟨e, he⟩ : ∃ e, rows[i]? = some e := by
            have h1 := (List.getElem?_eq_some_iff.1 hps).1
            exact ⟨rows[i]'(by rw [(unhide Hf).len]; exact h1), List.getElem?_eq_getElem _⟩
          obtain ⟨n, hn⟩ := ((unhide Hf).row i e ps he hps).wf
          exact ⟨n, e, hn⟩
        · rintro e w2 ⟨u, rfl, hu, hb2⟩
          have Hu := hide hu
          have Hb2 : Hid (Below w.heap.size w w2) := ((unhide Hb).alloc hsz _).then' (by simp; omega) hb2
          clear hu hb2
          go_wp2_with fail
          go_ret2
          exact ⟨u, 0, rfl, .inr (.inr ⟨hs', pd, rows, pss, pl, unhide Hf, unhide Ho, .inr ⟨rfl, unhide Hu, (unhide Hvr).bd⟩⟩), unhide Hb2⟩
      · obtain ⟨rfl, rfl⟩ := hz h0
        have Hc : Hid (ShowIs s ⟨#[]⟩ er) := .inr (.inr ⟨hs', pd, rows, pss, pl, hf, ho, .inl ⟨h0, rfl⟩⟩)
        have hne : (er == 0) = false := by simpa using h0
        clear hb hf ho hz hok
        go_wp2_with fail
        go_ret2
        exact ⟨_, er, rfl, unhide Hc, (unhide Hb).alloc hsz _⟩

set_option maxRecDepth 100000 in
set_option maxHeartbeats 1000000 in
theorem refShow_any (s u : ByteArray) (w : World) (hm : s.size ≤ maxLen) (er : Int) (hc : ShowIs s u er) :
    Calls Tryd.prog 6 #[.string s] w fun e w' => e = .returned (.tuple #[.string u, .int .i64 er]) ∧ Below w.heap.size w w' := by
  rcases hc with ⟨hs, rfl, rfl⟩ | ⟨hs, rfl, hp, rfl⟩ | ⟨hs, pd, rows, pss, pl, hf, ho, ⟨h0, rfl⟩ | ⟨rfl, hu, hbd⟩⟩
  · go_enter Tryd.func6, Tryd.ntmps6
    go_wp2_with fail
    refine (refRead_long s _ hs hm).mono ?_
    rintro e w1 ⟨rfl, hb⟩
    have Hb := hide hb
    have hsz := hb.size
    clear hb
    go_wp2_with fail
    go_ret2
    exact ⟨rfl, (unhide Hb).alloc hsz _⟩
  · obtain ⟨p, hpp⟩ : ∃ p, plc 0 0 0 0 (L s) = p := ⟨_, rfl⟩
    have Hp := hide hp
    have Hpp := hide hpp
    clear hp hpp
    go_enter Tryd.func6, Tryd.ntmps6
    go_wp2_with fail
    refine (refRead_form s _ hs (unhide Hp)).mono ?_
    rintro e w1 ⟨rfl, hb⟩
    rw [unhide Hpp]
    have Hb := hide hb
    have hsz := hb.size
    clear hb
    go_wp2_with fail
    go_ret2
    exact ⟨rfl, (unhide Hb).alloc hsz _⟩
  · have Hf := hide hf
    have Ho := hide ho
    have hne : (er == 0) = false := by simpa using h0
    clear hf ho
    go_enter Tryd.func6, Tryd.ntmps6
    go_wp2_with fail
    refine (refRead_ok s _ hs pd rows pss (unhide Hf)).mono ?_
    rintro e w1 ⟨a1, n1, k1, a2, n2, k2, a3, n3, k3, er', pl', rfl, ho', hb, _⟩
    have hh := (unhide Ho).symm.trans ho'
    simp only [Prod.mk.injEq] at hh
    obtain ⟨rfl, rfl⟩ := hh
    have Hb := hide hb
    have hsz := hb.size
    clear hb ho'
    go_wp2_with fail
    go_ret2
    exact ⟨rfl, (unhide Hb).alloc hsz _⟩
  · refine (refShow_ok s w hs pd rows pss hf pl ho hbd).mono ?_
    rintro e w1 ⟨u', rfl, hu', hb⟩
    obtain rfl : u' = u := L_inj (hu'.trans hu.symm)
    exact ⟨rfl, hb⟩

/-- The law's walk. -/
theorem shows_walk : shows.Walk := by
  intro a0 w0 w ht
  have Ht := hide ht
  clear ht
  go_enter Tryd.func3, Tryd.ntmps3
  go_wp2_with fail
  refine (dayShow_any a0 _ w0 (unhide Ht)).mono ?_
  rintro e w1 ⟨u, er, rfl, hc, hb1⟩
  have Hc := hide hc
  have Hb1 := hide hb1
  clear hc hb1
  go_wp2_with fail
  refine (refShow_any a0 u _ w0 er (unhide Hc)).mono ?_
  rintro e w2 ⟨rfl, hb2⟩
  have Hb2 := hide ((unhide Hb1).then hb2)
  have e1 : (er == er) = true := by simp
  clear hb2
  go_wp2_with fail
  go_ret
  exact ⟨rfl, unhide Hb2⟩

theorem shows_holds : Rows.ShowsCardSaid := shows.card shows_walk
#print axioms shows_holds
end Go.Proofs.YtpcdkhmahbecaaaDoor
