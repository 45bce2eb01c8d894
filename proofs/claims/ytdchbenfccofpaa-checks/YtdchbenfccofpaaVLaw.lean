/- Proved: for every text the law daybooklaw.Checks returns true: what daybook.Check answers (the error and the place) is what the document's own answer gives. No condition: every string. -/
import Derived.Test.YtdchbenfccofpaaU04
import Derived.Test.YtdchbenfccofpaaU08
import Derived.Test.YtdchbenfccofpaaRows
import Derived.ProofKit
import Derived.OpenShut
import Derived.ShutString
namespace Go.Proofs.Ytdchbenfccofpaa
open Go.RowKit Db

set_option maxHeartbeats 1000000 in
theorem refCheck_any (s : ByteArray) (w : World) (hm : s.size ≤ maxLen) (er pl : Int) (hc : CheckIs s er pl) :
    Calls Try.prog 5 #[.string s] w fun e w' => e = .returned (.tuple #[.int .i64 er, .int .i64 pl]) ∧ Below w.heap.size w w' := by
  rcases hc with ⟨hs, rfl, rfl⟩ | ⟨hs, rfl, hp, hp0⟩ | ⟨hs, pd, rows, pss, hf, ho⟩
  · go_enter Try.func5, Try.ntmps5
    go_wp2_with fail
    refine (refRead_long s _ hs hm).mono ?_
    rintro e w1 ⟨rfl, hb⟩
    have Hb := hide hb
    have hsz := hb.size
    clear hb
    go_wp2_with fail
    go_ret2
    exact ⟨rfl, (unhide Hb).alloc hsz _⟩
  · have Hp := hide hp
    clear hp
    go_enter Try.func5, Try.ntmps5
    go_wp2_with fail
    refine (refRead_form s _ hs (by rw [unhide Hp]; exact hp0)).mono ?_
    rintro e w1 ⟨rfl, hb⟩
    rw [unhide Hp]
    have Hb := hide hb
    have hsz := hb.size
    clear hb
    go_wp2_with fail
    go_ret2
    exact ⟨rfl, (unhide Hb).alloc hsz _⟩
  · have Hf := hide hf
    have Ho := hide ho
    clear hf ho
    go_enter Try.func5, Try.ntmps5
    go_wp2_with fail
    refine (refRead_ok s _ hs pd rows pss (unhide Hf)).mono ?_
    rintro e w1 ⟨a1, n1, k1, a2, n2, k2, a3, n3, k3, er', pl', rfl, ho', hb, _⟩
    have hh := (unhide Ho).symm.trans ho'
    simp only [Prod.mk.injEq] at hh
    obtain ⟨rfl, rfl⟩ := hh
    have Hb := hide hb
    have hsz := hb.size
    clear hb ho'
    go_wp2_with fail
    go_ret2
    exact ⟨rfl, (unhide Hb).alloc hsz _⟩

/-- The law's walk. -/
theorem checks_walk (a0 : ByteArray) (w0 : a0.size ≤ maxLen) (w : World) :
    Calls Try.prog 3 #[.string a0] w fun e w' => e = .returned (.bool true) ∧ Below w.heap.size w w' := by
  go_enter Try.func3, Try.ntmps3
  go_wp2_with fail
  refine (dayCheck_any a0 _ w0).mono ?_
  rintro e w1 ⟨er, pl, rfl, hc, hb1⟩
  have Hc := hide hc
  have Hb1 := hide hb1
  clear hc hb1
  go_wp2_with fail
  refine (refCheck_any a0 _ w0 er pl (unhide Hc)).mono ?_
  rintro e w2 ⟨rfl, hb2⟩
  have Hb2 := hide ((unhide Hb1).then hb2)
  have e1 : (er == er) = true := by simp
  have e2 : (pl == pl) = true := by simp
  clear hb2
  go_wp2_with fail
  go_ret
  exact ⟨rfl, unhide Hb2⟩

end Go.Proofs.Ytdchbenfccofpaa
namespace Go.Proofs.Ytdchbenfccofpaa.checks
open Go.ChangeShapes Go.WideShapes Go.ChangeAt Go.RowKit
open Go.ChangeMaps (open_string shut_string)
set_option linter.unusedVariables false

theorem own : ownKnob Try.prog.godebug = none := by kernel_rfl

set_option maxRecDepth 100000 in
theorem lifted (os : Os) (started : os.Started) (H : Type) (enc : TypeId × Value → H) :
    ReturnsInHanded {} Try.checked os 3 .any (Rows.checksSpec.pre6 enc Try.prog Try.f3 Rows.checksRow.domain false) (Rows.checksSpec.post enc Try.prog Try.f3 false true false false) := by
  refine returnsInHanded_of_change (C := Try.checked) own started (by kernel_rfl) Try.func3
    (ChangeSpec.witness6 (enc := enc) (C := Try.checked) false ⟨#[], #[.string ByteArray.empty], []⟩ 8 (by kernel_rfl) (by kernel_rfl) (by kernel_rfl) (by kernel_rfl)) ?_
  intro W base args ds gs before hval0 hW hcnd _
  have hval : ∀ (j : Nat) t v, Try.f3.params[j]? = some t → args[j]? = some v → Value.okWide Try.prog W .any base t v := hval0
  have hW' := hW
  obtain ⟨p, q, hA0, hV, rfl, hfz, hnd⟩ := hW
  have hA : DataW.TrodAll enc Try.prog W 0 (fun _ => true) true Try.f3.params.toList args.toList ds p := hA0
  rw [Try.params3] at hA hval
  obtain ⟨v0, vs0, d0, ds0, p0, q0, hargs, rfl, rfl, h0, r0⟩ := trodAll_cons hA
  obtain ⟨rfl, rfl, rfl⟩ := trodAll_nil r0
  obtain rfl : args = #[v0] := by cases args; simp_all
  obtain ⟨rfl, rfl⟩ := trodVars_none hV
  obtain ⟨a0, rfl, rfl, rfl, w0⟩ := open_string Try.underlying9 (hval 0 9 v0 rfl rfl) h0
  clear hA0 hval0
  simp only [List.append_nil] at hW'
  refine (checks_walk a0 w0 W).mono fun e W' ⟨he, hg⟩ => ?_
  subst he
  exact ⟨_, rfl, _, _, _, [], [], [], hW', trodAll_cons_mk (shut_bool Try.underlying4 _) trodAll_mk0, trodAll_cons_mk (shut_string Try.underlying9 w0) trodAll_mk0, rfl, hg.frame _, fun h => by cases h⟩

theorem over : Rows.checksRow.holds Try.pinned (OpenSpec.ofChange Rows.checksSpec) :=
  OpenClaim.holds_of_wide 3 Try.f3 rfl rfl rfl rfl rfl rfl rfl ⟨rfl, rfl, rfl, rfl, rfl⟩ rfl rfl rfl rfl rfl (by kernel_rfl) Try.func3 (by kernel_rfl)
    (of_decide_eq_true (by kernel_rfl)) (by unfold Func.isWrapper; first | (rw [if_pos (by decide +kernel)]; kernel_rfl) | (rw [if_neg (by decide +kernel)]; exact ⟨rfl, rfl⟩))
    (fun os started H enc _ => lifted os started H enc)

/-- The statement. -/
theorem proved : Rows.ChecksSaid :=
  over
end Go.Proofs.Ytdchbenfccofpaa.checks
namespace Go.Proofs.Ytdchbenfccofpaa
theorem checks_holds : Rows.ChecksSaid := checks.proved
#print axioms checks_holds
end Go.Proofs.Ytdchbenfccofpaa
