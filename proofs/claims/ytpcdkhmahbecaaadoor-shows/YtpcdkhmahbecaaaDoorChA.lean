/- Walks of the check: wrongPeriod, NamesRow, wrongName. -/
import Derived.Test.YtpcdkhmahbecaaaDoorRdK
namespace Go.Proofs.YtpcdkhmahbecaaaDoor
open Go.RowKit Db

theorem ownsRow_len {w : World} {base : Nat} {e : TypeId} {size : Nat} {v : Value} {n : Nat} {xs : List Value} (h : w.ownsRow base e size v n xs) : n ≤ maxLen := by
  rcases h.2 with ⟨_, rfl⟩ | ⟨g, cap, cur, _, _, _, h1, h2, _⟩
  · exact Nat.zero_le _
  · exact Nat.le_trans h1 h2
theorem pair_get {α : Type} (f g : α → Value) (l : List α) : ∀ (k : Nat) (a : α), l[k]? = some a → (l.flatMap fun x => [f x, g x])[k * 2]? = some (f a) ∧ (l.flatMap fun x => [f x, g x])[k * 2 + 1]? = some (g a) := by
  induction l with
  | nil => intro k a h; simp at h
  | cons x t ih =>
    intro k a h
    cases k with
    | zero => simp at h; subst h; simp
    | succ k =>
      have := ih k a (by simpa using h)
      simp only [List.flatMap_cons]
      rw [show (k + 1) * 2 = k * 2 + 1 + 1 by omega, show k * 2 + 1 + 1 + 1 = (k * 2 + 1) + 1 + 1 by omega]
      simpa using this

/-- A number, or how many there are where it is none. -/
def orLen (i : Int) (n : Nat) : Int := if 0 ≤ i then i else n
theorem orLen_pos {i : Int} {n : Nat} (h : 0 ≤ i) : orLen i n = i := if_pos h
theorem orLen_neg {i : Int} {n : Nat} (h : ¬ 0 ≤ i) : orLen i n = n := if_neg h

set_option maxRecDepth 100000 in
set_option maxHeartbeats 1000000 in
theorem wrongPeriod_any (vp : Value) (pd : List (List UInt8 × List UInt8)) (B : Nat) (w : World) (h : w.ownsRow B 70 2 vp pd.length (cellsD pd)) :
    Calls Tryd.prog 23 #[vp] w fun e w' => e = .returned (.int .i64 (orLen (badP 0 (pdv pd)) pd.length)) ∧ Below w.heap.size w w' := by
  have hml := ownsRow_len h
  unfold maxLen at hml
  obtain ⟨ao, cap, rfl⟩ := ownsRow_form h
  have H := hide h
  clear h
  go_enter Tryd.func23, Tryd.ntmps23
  go_wp2_with fail
  go_loopw [7] (fun i wr => ∃ k : Nat, k ≤ pd.length ∧ i = .int .i64 k ∧ Hid (badP k ((pdv pd).drop k) = badP 0 (pdv pd)) ∧ Hid (Below w.heap.size w wr)) (fun i _ => pd.length - (intOf i).toNat)
  case atStart => exact ⟨0, by omega, rfl, rfl, Below.refl _ _⟩
  case round =>
    obtain ⟨k, hk, rfl, Hp, Hb⟩ := hrel
    by_cases hlt : k < pd.length
    · obtain ⟨pk, hpk⟩ : ∃ pk, pd[k]? = some pk := ⟨pd[k], List.getElem?_eq_getElem hlt⟩
      have hpv : (pdv pd)[k]? = some (val pk.1, val pk.2) := by simp [pdv, hpk]
      have Hst := hide (badP_step hpv)
      obtain ⟨g, _, e1, hg, hg'⟩ := ownsRow_some (unhide H) (by omega)
      simp only [Value.slice.injEq, true_and] at e1
      obtain ⟨rfl, rfl⟩ := e1
      have hro := ownsRow_frm (unhide H) (X := fun _ => False) (unhide Hb).frm (fun j hj => ⟨((unhide H).lt j hj).2, fun h => h⟩)
      have hc := pair_get (fun p : List UInt8 × List UInt8 => Value.int .i64 (val p.1)) (fun p => Value.int .i64 (val p.2)) pd k pk hpk
      have c1 := ownsRow_cell hro (j := k * 2) hc.1
      have c2 := ownsRow_cell hro (j := k * 2 + 1) hc.2
      clear hro hc hpv hpk
      obtain ⟨x1, hx1⟩ : ∃ x1, val pk.1 = x1 := ⟨_, rfl⟩
      obtain ⟨x2, hx2⟩ : ∃ x2, val pk.2 = x2 := ⟨_, rfl⟩
      rw [hx1] at c1
      rw [hx2] at c2
      have Hst' : Hid (badP k ((pdv pd).drop k) = if x2 < x1 then (k : Int) else badP ((k + 1 : Nat) : Int) ((pdv pd).drop (k + 1))) := by show _ = _; rw [unhide Hst, hx1, hx2]
      have hsz := (unhide Hb).size
      clear hx1 hx2 Hst
      by_cases hbad : x2 < x1
      · have Hv : Hid (badP 0 (pdv pd) = k) := by show _ = _; rw [← unhide Hp, unhide Hst', if_pos hbad]
        go_wp2_with fail
        go_ret
        exact ⟨retI (by rw [unhide Hv, orLen_pos (by omega)]), (unhide Hb).alloc hsz _⟩
      · have Hst2 : Hid (badP k ((pdv pd).drop k) = badP ((k + 1 : Nat) : Int) ((pdv pd).drop (k + 1))) := by show _ = _; rw [unhide Hst', if_neg hbad]
        go_wp2_with fail
        go_roundw
        case rel => exact ⟨k + 1, by omega, by go_num, by show _ = _; rw [← unhide Hp, unhide Hst2], (unhide Hb).alloc hsz _⟩
        case measure => simp [intOf]; omega
    · have Hv : Hid (badP 0 (pdv pd) = -1) := by
        show _ = _
        rw [← unhide Hp, List.drop_eq_nil_of_le (by simp [pdv]; omega)]; rfl
      go_wp2_with fail
      go_ret
      exact ⟨retI (by rw [unhide Hv, orLen_neg (by omega)]), unhide Hb⟩

set_option maxRecDepth 100000 in
set_option maxHeartbeats 1000000 in
theorem namesRow_any (s n : Int) (w : World) :
    Calls Tryd.prog 47 #[.agg #[.int .u8 s, .int .i64 n]] w fun e w' => e = .returned (.bool (oldB s)) ∧ Below w.heap.size w w' := by
  by_cases h1 : (s == 36) = true
  all_goals
    have Hs : Hid (oldB s = ((s == 36) || (s == 60))) := rfl
    go_enter Tryd.func47, Tryd.ntmps47
    go_wp2_with fail
    go_ret
    exact ⟨by rw [unhide Hs]; simp_all, (Below.refl _ _).alloc (Nat.le_refl _) _⟩

/-- A row's names, from its k-th part on. -/
theorem nameB_step {row : Int} {ps : List Pt} {k : Nat} {p : Pt} (h : ps[k]? = some p) : nameB row (ps.drop k) = ((oldB p.1 && decide (row ≤ p.2)) || nameB row (ps.drop (k + 1))) := by
  obtain ⟨hi, rfl⟩ := List.getElem?_eq_some_iff.1 h
  rw [List.drop_eq_getElem_cons hi]; rfl

set_option maxRecDepth 100000 in
set_option maxHeartbeats 2000000 in
theorem wrongName_any (vr : Value) (vs : List Value) (pss : List (List Pt)) (B : Nat) (w : World) (h : RowsAt w B vr vs pss) :
    Calls Tryd.prog 24 #[vr] w fun e w' => e = .returned (.int .i64 (orLen (badN 0 pss) pss.length)) ∧ Below w.heap.size w w' := by
  have hml := ownsRow_len h.own
  have Hlen := hide h.len
  unfold maxLen at hml
  obtain ⟨ao, cap, rfl⟩ := ownsRow_form h.own
  have H := hide h
  clear h
  go_enter Tryd.func24, Tryd.ntmps24
  go_wp2_with fail
  go_loopw [9] (fun i wr => ∃ k : Nat, k ≤ vs.length ∧ i = .int .i64 k ∧ Hid (badN k (pss.drop k) = badN 0 pss) ∧ Hid (Below w.heap.size w wr)) (fun i _ => vs.length - (intOf i).toNat)
  case atStart => exact ⟨0, by omega, rfl, rfl, Below.refl _ _⟩
  case round =>
    obtain ⟨k, hk, rfl, Hp, Hb⟩ := hrel
    obtain ⟨wo, hwo⟩ : ∃ wo, wo = wr := ⟨_, rfl⟩
    subst hwo
    by_cases hlt : k < vs.length
    · obtain ⟨vk, hvk⟩ : ∃ vk, vs[k]? = some vk := ⟨vs[k], List.getElem?_eq_getElem hlt⟩
      obtain ⟨pk, hpk⟩ : ∃ pk, pss[k]? = some pk := ⟨pss[k]'(by rw [← unhide Hlen]; exact hlt), List.getElem?_eq_getElem _⟩
      have Hst := hide (badN_step hpk)
      have hrk := (unhide H).row k vk pk hvk hpk
      have hpl := ownsRow_len hrk
      unfold maxLen at hpl
      obtain ⟨aok, capk, rfl⟩ := ownsRow_form hrk
      obtain ⟨g, _, e1, hg, hg'⟩ := ownsRow_some (unhide H).own (by omega)
      simp only [Value.slice.injEq, true_and] at e1
      obtain ⟨rfl, rfl⟩ := e1
      have c1 := ownsRow_cell (ownsRow_frm (unhide H).own (X := fun _ => False) (unhide Hb).frm (fun j hj => ⟨((unhide H).own.lt j hj).2, fun h => h⟩)) (j := k) hvk
      have Hrk := hide (ownsRow_frm hrk (X := fun _ => False) (unhide Hb).frm (fun j hj => ⟨(hrk.lt j hj).2, fun h => h⟩))
      have hsz := (unhide Hb).size
      clear hrk hvk hpk
      go_wp2_with fail
      go_loopw [17] (fun i w2 => ∃ j : Nat, j ≤ pk.length ∧ i = .int .i64 j ∧ Hid (nameB k (pk.drop j) = nameB k pk) ∧ Hid (Below wo.heap.size wo w2) ∧ wo.heap.size < w2.heap.size) (fun i _ => pk.length - (intOf i).toNat)
      case atStart => exact ⟨0, by omega, rfl, rfl, (Below.refl _ _).alloc (Nat.le_refl _) _, by simp⟩
      case round =>
        obtain ⟨j, hj, rfl, Hn, Hb2, hsz2⟩ := hrel
        by_cases hltj : j < pk.length
        · obtain ⟨pj, hpj⟩ : ∃ pj, pk[j]? = some pj := ⟨pk[j], List.getElem?_eq_getElem hltj⟩
          have Hns := hide (nameB_step (row := k) hpj)
          obtain ⟨g2, _, e1, hg2, hg2'⟩ := ownsRow_some (unhide Hrk) (by omega)
          simp only [Value.slice.injEq, true_and] at e1
          obtain ⟨rfl, rfl⟩ := e1
          have hc := pair_get (fun p : Pt => Value.int .u8 p.1) (fun p => Value.int .i64 p.2) pk j pj hpj
          have hro := ownsRow_below (unhide Hrk) (unhide Hb2)
          have d1 := ownsRow_cell hro (j := j * 2) hc.1
          have d2 := ownsRow_cell hro (j := j * 2 + 1) hc.2
          clear hro hc hpj
          obtain ⟨s, n⟩ := pj
          simp only at d1 d2 Hns
          go_wp2_with fail
          refine (namesRow_any s n _).mono ?_
          rintro e w3 ⟨rfl, hb3⟩
          have f1 := hb3.cell (p := ⟨wr.heap.size, 1, none⟩) (by simp)
          have hb3s := hb3.size
          simp at f1 hb3s
          have Hb3 : Hid (Below wo.heap.size wo w3) := ((unhide Hb2).alloc (by omega) _).then' (by simp; omega) hb3
          clear hb3
          cases ho : oldB s with
          | true =>
            by_cases hge : (k : Int) ≤ n
            · have Hv : Hid (badN 0 pss = k) := by
                show _ = _
                rw [← unhide Hp, unhide Hst, ← unhide Hn, unhide Hns, ho]
                simp [hge]
              go_wp2_with fail
              go_ret
              exact ⟨retI (by rw [unhide Hv, orLen_pos (by omega)]), (unhide Hb).then' hsz (unhide Hb3)⟩
            · have Hns2 : Hid (nameB k (pk.drop j) = nameB k (pk.drop (j + 1))) := by show _ = _; rw [unhide Hns, ho]; simp; omega
              go_wp2_with fail
              go_roundw
              case rel => exact ⟨j + 1, by omega, by go_num, by show _ = _; rw [← unhide Hn, unhide Hns2], unhide Hb3, by omega⟩
              case measure => simp [intOf]; omega
          | false =>
            have Hns2 : Hid (nameB k (pk.drop j) = nameB k (pk.drop (j + 1))) := by show _ = _; rw [unhide Hns, ho]; simp
            go_wp2_with fail
            go_roundw
            case rel => exact ⟨j + 1, by omega, by go_num, by show _ = _; rw [← unhide Hn, unhide Hns2], unhide Hb3, by omega⟩
            case measure => simp [intOf]; omega
        · have Hst2 : Hid (badN k (pss.drop k) = badN ((k + 1 : Nat) : Int) (pss.drop (k + 1))) := by
            show _ = _
            have : nameB k pk = false := by rw [← unhide Hn, List.drop_eq_nil_of_le (by omega)]; rfl
            rw [unhide Hst, this]; rfl
          go_wp2_with fail
          go_roundw
          case rel => exact ⟨k + 1, by omega, by go_num, by show _ = _; rw [← unhide Hp, unhide Hst2], (unhide Hb).then' hsz (unhide Hb2)⟩
          case measure => simp [intOf]; omega
    · have Hv : Hid (badN 0 pss = -1) := by
        show _ = _
        rw [← unhide Hp, List.drop_eq_nil_of_le (by rw [← unhide Hlen]; omega)]; rfl
      go_wp2_with fail
      go_ret
      exact ⟨retI (by rw [unhide Hv, orLen_neg (by omega), ← unhide Hlen]), unhide Hb⟩

end Go.Proofs.YtpcdkhmahbecaaaDoor
