/- Walks of the check: wrongKind. -/
import Derived.Test.YtpcdkhmahbecaaaDoorChC
namespace Go.Proofs.YtpcdkhmahbecaaaDoor
open Go.RowKit Db

set_option maxRecDepth 100000 in
set_option maxHeartbeats 4000000 in
theorem wrongKind_any (vr : Value) (vs : List Value) (pss : List (List Pt)) (B : Nat) (w : World) (h : RowsAt w B vr vs pss) (hrow : ∀ (i : Nat) ps, pss[i]? = some ps → (∃ n e, Wf n e ps) ∧ ∀ p ∈ ps, 0 ≤ p.2) (hbn : badN 0 pss < 0) (hvl : vs.length ≤ 200) :
    Calls Tryd.prog 25 #[vr] w fun e w' => e = .returned (.int .i64 (orLen (badK 0 [] pss) pss.length)) ∧ Below w.heap.size w w' := by
  obtain ⟨ii, hi, hz0, hz1, hz2⟩ := info_parts info_kind
  have Hlen := hide h.len
  obtain ⟨ao, cap, rfl⟩ := ownsRow_form h.own
  have H := hide h
  have Hrow := hide hrow
  have Hbn := hide hbn
  clear h hrow hbn
  go_enter Tryd.func25, Tryd.ntmps25
  go_wp2_with fail
  go_loopw [3, 10] (fun vk i wr => ∃ k : Nat, ∃ ks : List Int, k ≤ vs.length ∧ i = .int .i64 k ∧ ks.length = k ∧ Hid (∀ x ∈ ks, x = 0 ∨ x = 1) ∧ Hid (badK k (ks.map toR) (pss.drop k) = badK 0 [] pss) ∧
      Hid (wr.ownsRow w.heap.size 112 1 vk ks.length (ks.map (.int .i64))) ∧ Hid (Below w.heap.size w wr)) (fun _ i _ => vs.length - (intOf i).toNat)
  case atStart => exact ⟨0, [], by omega, rfl, rfl, by simp [Hid], rfl, World.ownsRow_nil _ _ _ _, Below.refl _ _⟩
  case round =>
    obtain ⟨k, ks, hk, rfl, hkl, Hkb, Hp, Ho, Hb⟩ := hrel
    obtain ⟨aok, capk, hvk⟩ := ownsRow_form (unhide Ho)
    subst hvk
    subst hkl
    have hsz := (unhide Hb).size
    by_cases hlt : ks.length < vs.length
    · obtain ⟨vk, hvk⟩ : ∃ vk, vs[ks.length]? = some vk := ⟨vs[ks.length], List.getElem?_eq_getElem hlt⟩
      obtain ⟨pk, hpk⟩ : ∃ pk, pss[ks.length]? = some pk := ⟨pss[ks.length]'(by rw [← unhide Hlen]; exact hlt), List.getElem?_eq_getElem _⟩
      have Hst := hide (badK_step (ks.map toR) hpk)
      have hrk := (unhide H).row ks.length vk pk hvk hpk
      obtain ⟨aop, capp, rfl⟩ := ownsRow_form hrk
      obtain ⟨g, _, e1, hg, hg'⟩ := ownsRow_some (unhide H).own (by omega)
      simp only [Value.slice.injEq, true_and] at e1
      obtain ⟨rfl, rfl⟩ := e1
      have c1 := ownsRow_cell (ownsRow_below (unhide H).own (unhide Hb)) (j := ks.length) hvk
      have Hrk := hide (ownsRow_below hrk (unhide Hb))
      have hro := unhide Hrow ks.length pk hpk
      obtain ⟨⟨nf, ef, hwf⟩, hpos⟩ := hro
      have hnm := badN_all pss 0 (by omega) (unhide Hbn) ks.length pk hpk
      rw [Int.zero_add] at hnm
      have Hnm : Hid (∀ p ∈ pk, oldB p.1 = true → 0 ≤ p.2 ∧ p.2.toNat < ks.length) := fun p hp ho => ⟨hpos p hp, nameB_lt hnm hpos ks.length rfl p hp ho⟩
      have Hdp : Hid (dpt pk 0 = some 1) := by
        have := wf_dpt hwf [] 0
        rw [List.append_nil] at this
        exact this
      have Hke : Hid (∃ kk, kEval (ks.map toR) pk [] = [kk]) := by
        obtain ⟨kk, hkk⟩ := wf_kind (ks.map toR) hwf
        refine ⟨kk, ?_⟩
        have := hkk [] []
        rw [List.append_nil] at this
        exact this
      have Hbd := hide ((unhide H).bd pk (List.mem_of_getElem? hpk))
      clear hrk hvk hpk hwf hpos hnm
      go_wp2_with fail
      refine (rowKind_any _ _ pk ks 0 _ (by exact (ownsRow_base (unhide Hrk) (fun _ _ => Nat.zero_le _)).alloc _) (by exact (ownsRow_base (unhide Ho) (fun _ _ => Nat.zero_le _)).alloc _) (unhide Hkb) (unhide Hnm) (unhide Hdp) (unhide Hke) (unhide Hbd)).mono ?_
      rintro e w3 ⟨kp, ok, rfl, hkp, hkind, hb3⟩
      have Hb3 : Hid (Below w.heap.size w w3) := ((unhide Hb).alloc hsz _).then' (by simp; omega) hb3
      have Ho3 := hide (ownsRow_below ((unhide Ho).alloc _) hb3)
      have hs3 := hb3.size
      simp at hs3
      have Hkp := hide hkp
      have Hkind := hide hkind
      clear hb3 hkp hkind
      cases ok with
      | false =>
        have Hv : Hid (badK 0 [] pss = ks.length) := by
          show _ = _
          rw [← unhide Hp, unhide Hst, unhide Hkind]; rfl
        go_wp2_with fail
        go_ret
        exact ⟨retI (by rw [unhide Hv, orLen_pos (by omega)]), unhide Hb3⟩
      | true =>
        have Hst2 : Hid (badK ks.length (ks.map toR) (pss.drop ks.length) = badK ((ks.length + 1 : Nat) : Int) ((ks ++ [kp]).map toR) (pss.drop (ks.length + 1))) := by
          show _ = _
          rw [unhide Hst, unhide Hkind]
          have : (toR kp == 0) = false := by rcases unhide Hkp with h | h <;> subst h <;> rfl
          simp [this]
        go_wp2_with (first
          | (at_builtin; refine wpList_append_own _ rfl (.tmp 24) (.tmp 26) 111 rfl w.heap.size 112 ii (.int .i64 0) 1 8 Tryd.underlying111 hi hz0 hz1 hz2 rfl (by decide) (.slice aok ks.length capk) ks.length _ rfl ((unhide Ho3).alloc _) ⟨w3.heap.size, 0, none⟩ 1 1 [.int .i64 kp] rfl rfl (cell_one_new _ _ _) (fun x hx => by simp at hx; subst hx; rfl) (by unfold maxLen; omega) (by omega) (by simp; omega) ?_; intro vq' w5 hown5 hgr5 _))
        have hb5 : Below w.heap.size w w5 := ((unhide Hb3).alloc (by omega) _).grown hgr5 (by simp; omega) (fun g hg => ((unhide Ho3).lt g hg).1)
        have Hown5 := hide hown5
        have Hb5 := hide hb5
        clear hown5 hgr5 hb5
        go_wp2_with fail
        go_roundw
        case rel =>
          refine ⟨ks.length + 1, ks ++ [kp], by omega, by go_num, by simp, ?_, by show _ = _; rw [← unhide Hp, unhide Hst2], ?_, unhide Hb5⟩
          · intro x hx
            simp at hx
            rcases hx with hx | rfl
            · exact unhide Hkb x hx
            · exact unhide Hkp
          · show World.ownsRow _ _ _ _ _ _ _
            simpa using unhide Hown5
        case measure => simp [intOf]; omega
    · have Hv : Hid (badK 0 [] pss = -1) := by
        show _ = _
        rw [← unhide Hp, List.drop_eq_nil_of_le (by rw [← unhide Hlen]; omega)]; rfl
      go_wp2_with fail
      go_ret
      exact ⟨retI (by rw [unhide Hv, orLen_neg (by omega), ← unhide Hlen]), unhide Hb⟩

end Go.Proofs.YtpcdkhmahbecaaaDoor
