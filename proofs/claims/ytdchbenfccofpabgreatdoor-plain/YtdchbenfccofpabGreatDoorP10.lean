/- Walks of the check: wrongPeriod, NamesRow, wrongName. Walks of the check: kinds. Walks of the check: rowKind. Walks of Show: a whole report. Walks of the check: wrongKind. -/
import Derived.Test.YtdchbenfccofpabGreatDoorP09
import Derived.Test.YtdchbenfccofpabGreatDoorP02
import Derived.WalkSmall
import Derived.Test.YtdchbenfccofpabGreatDoorP08
import Derived.Lib.ItoaLen
import Derived.Deep.RegionHeld3
import Derived.Deep.DeepCutAuto
namespace Go.Proofs.YtdchbenfccofpabGreatDoor
open Go.RowKit Db

theorem ownsRow_len {w : World} {base : Nat} {e : TypeId} {size : Nat} {v : Value} {n : Nat} {xs : List Value} (h : w.ownsRow base e size v n xs) : n ≤ maxLen := by
  rcases h.2 with ⟨_, rfl⟩ | ⟨g, cap, cur, _, _, _, h1, h2, _⟩
  · exact Nat.zero_le _
  · exact Nat.le_trans h1 h2
theorem pair_get {α : Type} (f g : α → Value) (l : List α) : ∀ (k : Nat) (a : α), l[k]? = some a → (l.flatMap fun x => [f x, g x])[k * 2]? = some (f a) ∧ (l.flatMap fun x => [f x, g x])[k * 2 + 1]? = some (g a) := by
  induction l with
  | nil => intro k a h; simp at h
  | cons x t ih =>
    intro k a h
    cases k with
    | zero => simp at h; subst h; simp
    | succ k =>
      have := ih k a (by simpa using h)
      simp only [List.flatMap_cons]
      rw [show (k + 1) * 2 = k * 2 + 1 + 1 by omega, show k * 2 + 1 + 1 + 1 = (k * 2 + 1) + 1 + 1 by omega]
      simpa using this

/-- A number, or how many there are where it is none. -/
def orLen (i : Int) (n : Nat) : Int := if 0 ≤ i then i else n
theorem orLen_pos {i : Int} {n : Nat} (h : 0 ≤ i) : orLen i n = i := if_pos h
theorem orLen_neg {i : Int} {n : Nat} (h : ¬ 0 ≤ i) : orLen i n = n := if_neg h

set_option maxRecDepth 100000 in
set_option maxHeartbeats 1000000 in
theorem wrongPeriod_any (vp : Value) (pd : List (List UInt8 × List UInt8)) (B : Nat) (w : World) (h : w.ownsRow B 114 2 vp pd.length (cellsD pd)) :
    Calls Tryz.prog 54 #[vp] w fun e w' => e = .returned (.int .i64 (orLen (badP 0 (pdv pd)) pd.length)) ∧ Below w.heap.size w w' := by
  have hml := ownsRow_len h
  unfold maxLen at hml
  obtain ⟨ao, cap, rfl⟩ := ownsRow_form h
  have H := hide h
  clear h
  go_enter Tryz.func54, Tryz.ntmps54
  go_wp2_with fail
  go_loopw [7] (fun i wr => ∃ k : Nat, k ≤ pd.length ∧ i = .int .i64 k ∧ Hid (badP k ((pdv pd).drop k) = badP 0 (pdv pd)) ∧ Hid (Below w.heap.size w wr)) (fun i _ => pd.length - (intOf i).toNat)
  case atStart => exact ⟨0, by omega, rfl, rfl, Below.refl _ _⟩
  case round =>
    obtain ⟨k, hk, rfl, Hp, Hb⟩ := hrel
    by_cases hlt : k < pd.length
    · obtain ⟨pk, hpk⟩ : ∃ pk, pd[k]? = some pk := ⟨pd[k], List.getElem?_eq_getElem hlt⟩
      have hpv : (pdv pd)[k]? = some (val pk.1, val pk.2) := by simp [pdv, hpk]
      have Hst := hide (badP_step hpv)
      obtain ⟨g, _, e1, hg, hg'⟩ := ownsRow_some (unhide H) (by omega)
      simp only [Value.slice.injEq, true_and] at e1
      obtain ⟨rfl, rfl⟩ := e1
      have hro := ownsRow_frm (unhide H) (X := fun _ => False) (unhide Hb).frm (fun j hj => ⟨((unhide H).lt j hj).2, fun h => h⟩)
      have hc := pair_get (fun p : List UInt8 × List UInt8 => Value.int .i64 (val p.1)) (fun p => Value.int .i64 (val p.2)) pd k pk hpk
      have c1 := ownsRow_cell hro (j := k * 2) hc.1
      have c2 := ownsRow_cell hro (j := k * 2 + 1) hc.2
      clear hro hc hpv hpk
      obtain ⟨x1, hx1⟩ : ∃ x1, val pk.1 = x1 := ⟨_, rfl⟩
      obtain ⟨x2, hx2⟩ : ∃ x2, val pk.2 = x2 := ⟨_, rfl⟩
      rw [hx1] at c1
      rw [hx2] at c2
      have Hst' : Hid (badP k ((pdv pd).drop k) = if x2 < x1 then (k : Int) else badP ((k + 1 : Nat) : Int) ((pdv pd).drop (k + 1))) := by show _ = _; rw [unhide Hst, hx1, hx2]
      have hsz := (unhide Hb).size
      clear hx1 hx2 Hst
      by_cases hbad : x2 < x1
      · have Hv : Hid (badP 0 (pdv pd) = k) := by show _ = _; rw [← unhide Hp, unhide Hst', if_pos hbad]
        go_wp2_with fail
        go_ret
        exact ⟨retI (by rw [unhide Hv, orLen_pos (by omega)]), (unhide Hb).alloc hsz _⟩
      · have Hst2 : Hid (badP k ((pdv pd).drop k) = badP ((k + 1 : Nat) : Int) ((pdv pd).drop (k + 1))) := by show _ = _; rw [unhide Hst', if_neg hbad]
        go_wp2_with fail
        go_roundw
        case rel => exact ⟨k + 1, by omega, by go_num, by show _ = _; rw [← unhide Hp, unhide Hst2], (unhide Hb).alloc hsz _⟩
        case measure => simp [intOf]; omega
    · have Hv : Hid (badP 0 (pdv pd) = -1) := by
        show _ = _
        rw [← unhide Hp, List.drop_eq_nil_of_le (by simp [pdv]; omega)]; rfl
      go_wp2_with fail
      go_ret
      exact ⟨retI (by rw [unhide Hv, orLen_neg (by omega)]), unhide Hb⟩

set_option maxRecDepth 100000 in
set_option maxHeartbeats 1000000 in
theorem namesRow_any (s n : Int) (w : World) :
    Calls Tryz.prog 73 #[.agg #[.int .u8 s, .int .i64 n]] w fun e w' => e = .returned (.bool (oldB s)) ∧ Below w.heap.size w w' := by
  by_cases h1 : (s == 36) = true
  all_goals
    have Hs : Hid (oldB s = ((s == 36) || (s == 60))) := rfl
    go_enter Tryz.func73, Tryz.ntmps73
    go_wp2_with fail
    go_ret
    exact ⟨by rw [unhide Hs]; simp_all, (Below.refl _ _).alloc (Nat.le_refl _) _⟩

/-- A row's names, from its k-th part on. -/
theorem nameB_step {row : Int} {ps : List Pt} {k : Nat} {p : Pt} (h : ps[k]? = some p) : nameB row (ps.drop k) = ((oldB p.1 && decide (row ≤ p.2)) || nameB row (ps.drop (k + 1))) := by
  obtain ⟨hi, rfl⟩ := List.getElem?_eq_some_iff.1 h
  rw [List.drop_eq_getElem_cons hi]; rfl

set_option maxRecDepth 100000 in
set_option maxHeartbeats 2000000 in
theorem wrongName_any (vr : Value) (vs : List Value) (pss : List (List Pt)) (B : Nat) (w : World) (h : RowsAt w B vr vs pss) :
    Calls Tryz.prog 55 #[vr] w fun e w' => e = .returned (.int .i64 (orLen (badN 0 pss) pss.length)) ∧ Below w.heap.size w w' := by
  have hml := ownsRow_len h.own
  have Hlen := hide h.len
  unfold maxLen at hml
  obtain ⟨ao, cap, rfl⟩ := ownsRow_form h.own
  have H := hide h
  clear h
  go_enter Tryz.func55, Tryz.ntmps55
  go_wp2_with fail
  go_loopw [9] (fun i wr => ∃ k : Nat, k ≤ vs.length ∧ i = .int .i64 k ∧ Hid (badN k (pss.drop k) = badN 0 pss) ∧ Hid (Below w.heap.size w wr)) (fun i _ => vs.length - (intOf i).toNat)
  case atStart => exact ⟨0, by omega, rfl, rfl, Below.refl _ _⟩
  case round =>
    obtain ⟨k, hk, rfl, Hp, Hb⟩ := hrel
    obtain ⟨wo, hwo⟩ : ∃ wo, wo = wr := ⟨_, rfl⟩
    subst hwo
    by_cases hlt : k < vs.length
    · obtain ⟨vk, hvk⟩ : ∃ vk, vs[k]? = some vk := ⟨vs[k], List.getElem?_eq_getElem hlt⟩
      obtain ⟨pk, hpk⟩ : ∃ pk, pss[k]? = some pk := ⟨pss[k]'(by rw [← unhide Hlen]; exact hlt), List.getElem?_eq_getElem _⟩
      have Hst := hide (badN_step hpk)
      have hrk := (unhide H).row k vk pk hvk hpk
      have hpl := ownsRow_len hrk
      unfold maxLen at hpl
      obtain ⟨aok, capk, rfl⟩ := ownsRow_form hrk
      obtain ⟨g, _, e1, hg, hg'⟩ := ownsRow_some (unhide H).own (by omega)
      simp only [Value.slice.injEq, true_and] at e1
      obtain ⟨rfl, rfl⟩ := e1
      have c1 := ownsRow_cell (ownsRow_frm (unhide H).own (X := fun _ => False) (unhide Hb).frm (fun j hj => ⟨((unhide H).own.lt j hj).2, fun h => h⟩)) (j := k) hvk
      have Hrk := hide (ownsRow_frm hrk (X := fun _ => False) (unhide Hb).frm (fun j hj => ⟨(hrk.lt j hj).2, fun h => h⟩))
      have hsz := (unhide Hb).size
      clear hrk hvk hpk
      go_wp2_with fail
      go_loopw [17] (fun i w2 => ∃ j : Nat, j ≤ pk.length ∧ i = .int .i64 j ∧ Hid (nameB k (pk.drop j) = nameB k pk) ∧ Hid (Below wo.heap.size wo w2) ∧ wo.heap.size < w2.heap.size) (fun i _ => pk.length - (intOf i).toNat)
      case atStart => exact ⟨0, by omega, rfl, rfl, (Below.refl _ _).alloc (Nat.le_refl _) _, by simp⟩
      case round =>
        obtain ⟨j, hj, rfl, Hn, Hb2, hsz2⟩ := hrel
        by_cases hltj : j < pk.length
        · obtain ⟨pj, hpj⟩ : ∃ pj, pk[j]? = some pj := ⟨pk[j], List.getElem?_eq_getElem hltj⟩
          have Hns := hide (nameB_step (row := k) hpj)
          obtain ⟨g2, _, e1, hg2, hg2'⟩ := ownsRow_some (unhide Hrk) (by omega)
          simp only [Value.slice.injEq, true_and] at e1
          obtain ⟨rfl, rfl⟩ := e1
          have hc := pair_get (fun p : Pt => Value.int .u8 p.1) (fun p => Value.int .i64 p.2) pk j pj hpj
          have hro := ownsRow_below (unhide Hrk) (unhide Hb2)
          have d1 := ownsRow_cell hro (j := j * 2) hc.1
          have d2 := ownsRow_cell hro (j := j * 2 + 1) hc.2
          clear hro hc hpj
          obtain ⟨s, n⟩ := pj
          simp only at d1 d2 Hns
          go_wp2_with fail
          refine (namesRow_any s n _).mono ?_
          rintro e w3 ⟨rfl, hb3⟩
          have f1 := hb3.cell (p := ⟨wr.heap.size, 1, none⟩) (by simp)
          have hb3s := hb3.size
          simp at f1 hb3s
          have Hb3 : Hid (Below wo.heap.size wo w3) := ((unhide Hb2).alloc (by omega) _).then' (by simp; omega) hb3
          clear hb3
          cases ho : oldB s with
          | true =>
            by_cases hge : (k : Int) ≤ n
            · have Hv : Hid (badN 0 pss = k) := by
                show _ = _
                rw [← unhide Hp, unhide Hst, ← unhide Hn, unhide Hns, ho]
                simp [hge]
              go_wp2_with fail
              go_ret
              exact ⟨retI (by rw [unhide Hv, orLen_pos (by omega)]), (unhide Hb).then' hsz (unhide Hb3)⟩
            · have Hns2 : Hid (nameB k (pk.drop j) = nameB k (pk.drop (j + 1))) := by show _ = _; rw [unhide Hns, ho]; simp; omega
              go_wp2_with fail
              go_roundw
              case rel => exact ⟨j + 1, by omega, by go_num, by show _ = _; rw [← unhide Hn, unhide Hns2], unhide Hb3, by omega⟩
              case measure => simp [intOf]; omega
          | false =>
            have Hns2 : Hid (nameB k (pk.drop j) = nameB k (pk.drop (j + 1))) := by show _ = _; rw [unhide Hns, ho]; simp
            go_wp2_with fail
            go_roundw
            case rel => exact ⟨j + 1, by omega, by go_num, by show _ = _; rw [← unhide Hn, unhide Hns2], unhide Hb3, by omega⟩
            case measure => simp [intOf]; omega
        · have Hst2 : Hid (badN k (pss.drop k) = badN ((k + 1 : Nat) : Int) (pss.drop (k + 1))) := by
            show _ = _
            have : nameB k pk = false := by rw [← unhide Hn, List.drop_eq_nil_of_le (by omega)]; rfl
            rw [unhide Hst, this]; rfl
          go_wp2_with fail
          go_roundw
          case rel => exact ⟨k + 1, by omega, by go_num, by show _ = _; rw [← unhide Hp, unhide Hst2], (unhide Hb).then' hsz (unhide Hb2)⟩
          case measure => simp [intOf]; omega
    · have Hv : Hid (badN 0 pss = -1) := by
        show _ = _
        rw [← unhide Hp, List.drop_eq_nil_of_le (by rw [← unhide Hlen]; omega)]; rfl
      go_wp2_with fail
      go_ret
      exact ⟨retI (by rw [unhide Hv, orLen_neg (by omega), ← unhide Hlen]), unhide Hb⟩

end Go.Proofs.YtdchbenfccofpabGreatDoor
namespace Go.Proofs.YtdchbenfccofpabGreatDoor
open Go.RowKit Db

theorem retB {a b : Bool} (h : a = b) : Ending.returned (.bool a) = .returned (.bool b) := by rw [h]

set_option maxRecDepth 100000 in
set_option maxHeartbeats 1000000 in
theorem isOperand_any (s n : Int) (w : World) :
    Calls Tryz.prog 75 #[.agg #[.int .u8 s, .int .i64 n]] w fun e w' => e = .returned (.bool (opdB s)) ∧ Below w.heap.size w w' := by
  by_cases h1 : s = 48
  · subst h1
    go_enter Tryz.func75, Tryz.ntmps75
    go_wp2_with fail
    go_ret
    exact ⟨rfl, (Below.refl _ _).alloc (Nat.le_refl _) _⟩
  by_cases h2 : s = 64
  · subst h2
    go_enter Tryz.func75, Tryz.ntmps75
    go_wp2_with fail
    go_ret
    exact ⟨rfl, (Below.refl _ _).alloc (Nat.le_refl _) _⟩
  by_cases h3 : s = 33
  · subst h3
    go_enter Tryz.func75, Tryz.ntmps75
    go_wp2_with fail
    go_ret
    exact ⟨rfl, (Below.refl _ _).alloc (Nat.le_refl _) _⟩
  by_cases h4 : s = 35
  · subst h4
    go_enter Tryz.func75, Tryz.ntmps75
    go_wp2_with fail
    go_ret
    exact ⟨rfl, (Below.refl _ _).alloc (Nat.le_refl _) _⟩
  by_cases h5 : s = 36
  · subst h5
    go_enter Tryz.func75, Tryz.ntmps75
    go_wp2_with fail
    go_ret
    exact ⟨rfl, (Below.refl _ _).alloc (Nat.le_refl _) _⟩
  by_cases h6 : s = 60
  · subst h6
    go_enter Tryz.func75, Tryz.ntmps75
    go_wp2_with fail
    go_ret
    exact ⟨rfl, (Below.refl _ _).alloc (Nat.le_refl _) _⟩
  have Hs : Hid (opdB s = false) := by show _ = _; simp [opdB, selB, oldB, h1, h2, h3, h4, h5, h6]
  have n1 : (s == 48) = false := by simpa using h1
  have n2 : (s == 64) = false := by simpa using h2
  have n3 : (s == 33) = false := by simpa using h3
  have n4 : (s == 35) = false := by simpa using h4
  have n5 : (s == 36) = false := by simpa using h5
  have n6 : (s == 60) = false := by simpa using h6
  clear h1 h2 h3 h4 h5 h6
  go_enter Tryz.func75, Tryz.ntmps75
  go_wp2_with fail
  go_ret
  exact ⟨retB (unhide Hs).symm, (Below.refl _ _).alloc (Nat.le_refl _) _⟩

set_option maxRecDepth 100000 in
set_option maxHeartbeats 1000000 in
theorem joinKinds_any (o l r : Int) (w : World) (ho : opB o = true) (hl : l = 0 ∨ l = 1) (hr : r = 0 ∨ r = 1) :
    Calls Tryz.prog 97 #[.int .u8 o, .int .i64 l, .int .i64 r] w fun e w' => e = .returned (.tuple #[.int .i64 (jk o l r).1, .bool (jk o l r).2]) ∧ w' = w := by
  simp [opB] at ho
  rcases ho with ((rfl | rfl) | rfl) | rfl <;> rcases hl with rfl | rfl <;> rcases hr with rfl | rfl
  all_goals
    go_enter Tryz.func97, Tryz.ntmps97
    go_wp2
    go_ret2
    exact ⟨rfl, rfl⟩

set_option maxRecDepth 100000 in
set_option maxHeartbeats 1000000 in
theorem operandKind_any (s n : Int) (v : Value) (ks : List Int) (B : Nat) (w : World) (hown : w.ownsRow B 149 1 v ks.length (ks.map (.int .i64))) (hks : ∀ x ∈ ks, x = 0 ∨ x = 1)
    (hn : oldB s = true → 0 ≤ n ∧ n.toNat < ks.length) :
    Calls Tryz.prog 96 #[.agg #[.int .u8 s, .int .i64 n], v] w fun e w' => ∃ k, e = .returned (.int .i64 k) ∧ (k = 0 ∨ k = 1) ∧ leafK (ks.map toR) (s, n) = toR k ∧ Below w.heap.size w w' := by
  have hml := ownsRow_len hown
  unfold maxLen at hml
  obtain ⟨ao, cap, rfl⟩ := ownsRow_form hown
  by_cases h1 : s = 64
  · subst h1
    go_enter Tryz.func96, Tryz.ntmps96
    go_wp2_with fail
    go_ret
    exact ⟨1, rfl, .inr rfl, rfl, (Below.refl _ _).alloc (Nat.le_refl _) _⟩
  by_cases h2 : s = 33
  · subst h2
    go_enter Tryz.func96, Tryz.ntmps96
    go_wp2_with fail
    go_ret
    exact ⟨1, rfl, .inr rfl, rfl, (Below.refl _ _).alloc (Nat.le_refl _) _⟩
  have n1 : (s == 64) = false := by simpa using h1
  have n2 : (s == 33) = false := by simpa using h2
  clear h1 h2
  cases ho : oldB s with
  | true =>
    obtain ⟨hn0, hnl⟩ := hn ho
    obtain ⟨m, rfl⟩ := Int.eq_ofNat_of_zero_le hn0
    rw [Int.toNat_natCast] at hnl
    obtain ⟨x, hx⟩ : ∃ x, ks[m]? = some x := ⟨ks[m], List.getElem?_eq_getElem hnl⟩
    have hx01 := hks x (List.mem_of_getElem? hx)
    obtain ⟨g, _, e1, hg, hg'⟩ := ownsRow_some hown (by omega)
    simp only [Value.slice.injEq, true_and] at e1
    obtain ⟨rfl, rfl⟩ := e1
    have c1 := ownsRow_cell hown (j := m) (u := .int .i64 x) (by simp [hx])
    have Hk : Hid (leafK (ks.map toR) (s, (m : Int)) = toR x) := by
      show _ = _
      unfold leafK
      simp [n1, n2, ho, hx]
    have hml2 : (m : Int) < (ks.length : Int) := by omega
    clear hown hks hn hx
    go_enter Tryz.func96, Tryz.ntmps96
    go_wp2_with fail
    refine (namesRow_any s m _).mono ?_
    rintro e w1 ⟨rfl, hb1⟩
    rw [ho]
    have f1 := hb1.cell (p := ⟨w.heap.size, 1, none⟩) (by simp)
    simp at f1
    have hb1s := hb1.size
    simp at hb1s
    have Hb : Hid (Below w.heap.size w w1) := ((Below.refl _ _).alloc (Nat.le_refl _) _).then' (by simp) hb1
    have f2 := ((unhide Hb).cell (p := ⟨g, m, none⟩) hg').trans c1
    clear hb1
    go_wp2_with fail
    go_ret
    exact ⟨x, rfl, hx01, unhide Hk, unhide Hb⟩
  | false =>
    have Hk : Hid (leafK (ks.map toR) (s, n) = toR 0) := by
      show _ = _
      unfold leafK
      simp [n1, n2, ho, toR]
    clear hown hks hn
    go_enter Tryz.func96, Tryz.ntmps96
    go_wp2_with fail
    refine (namesRow_any s n _).mono ?_
    rintro e w1 ⟨rfl, hb1⟩
    rw [ho]
    have Hb : Hid (Below w.heap.size w w1) := ((Below.refl _ _).alloc (Nat.le_refl _) _).then' (by simp) hb1
    clear hb1
    go_wp2_with fail
    go_ret
    exact ⟨0, rfl, .inl rfl, unhide Hk, unhide Hb⟩

end Go.Proofs.YtdchbenfccofpabGreatDoor
namespace Go.Proofs.YtdchbenfccofpabGreatDoor
open Go.RowKit Db

theorem info_kind : (Tryz.prog.info? 149).map (fun i => (i.zero, i.size, i.bytes)) = some (some (.int .i64 0), 1, 8) := by kernel_rfl

/-- The upper two of a pile give way to one. -/
theorem own_pop2 {w : World} {B g cap : Nat} {e : TypeId} {q : List Int} {x y : Int} (h : w.ownsRow B e 1 (.slice (some ⟨g, 0, none⟩) (q.length + 2) cap) (q.length + 2) ((q ++ [x, y]).map (.int .i64))) (k : Int) :
    (w.setCell ⟨g, q.length, none⟩ (.int .i64 k)).ownsRow B e 1 (.slice (some ⟨g, 0, none⟩) (q.length + 1) cap) (q.length + 1) ((q ++ [k]).map (.int .i64)) := by
  obtain ⟨_, h2⟩ := h
  rcases h2 with ⟨h0, _⟩ | ⟨g', cap', cur, hv, hg, hh, hn, hcap, hsz, htake⟩
  · cases h0
  · cases hv
    refine ⟨by simp, .inr ⟨g, cap, cur.setIfInBounds q.length (.int .i64 k), rfl, hg, ?_, by omega, hcap, by simpa using hsz, ?_⟩⟩
    · exact Blk.set hh q.length (.int .i64 k)
    · rw [Array.toList_setIfInBounds]
      have h1 : (cur.toList.take ((q.length + 2) * 1)).take q.length = q.map (.int .i64) := by
        rw [htake]; simp
      rw [List.take_take, show min q.length ((q.length + 2) * 1) = q.length by omega] at h1
      rw [show (q.length + 1) * 1 = q.length + 1 by omega, List.take_succ_eq_append_getElem (by simp; omega)]
      rw [List.take_set_of_le (by omega), h1]
      simp

/-- Where the loop over the parts stands. -/
structure KLoop (w wr : World) (rows : List Int) (ps : List Pt) (j : Nat) (q : List Int) (vq : Value) : Prop where
  bit : ∀ x ∈ q, x = 0 ∨ x = 1
  dp : dpt (ps.drop j) q.length = some 1
  ev : kEval rows (ps.drop j) (q.reverse.map toR) = kEval rows ps []
  own : wr.ownsRow w.heap.size 149 1 vq q.length (q.map (.int .i64))
  bel : Below w.heap.size w wr

theorem drop_cons {ps : List Pt} {j : Nat} {p : Pt} (h : ps[j]? = some p) : ps.drop j = p :: ps.drop (j + 1) := by
  obtain ⟨hi, rfl⟩ := List.getElem?_eq_some_iff.1 h
  exact List.drop_eq_getElem_cons hi
theorem snoc2 (q : List Int) (h : 2 ≤ q.length) : ∃ r x y, q = r ++ [x, y] := by
  cases hq : q.reverse with
  | nil => simp at hq; subst hq; simp at h
  | cons y t =>
    cases t with
    | nil =>
      have := congrArg List.length hq
      simp at this
      omega
    | cons x t =>
      refine ⟨t.reverse, x, y, ?_⟩
      have := congrArg List.reverse hq
      simpa using this

theorem KLoop.opnd {w wr w' : World} {rows : List Int} {ps : List Pt} {j : Nat} {q : List Int} {vq vq' : Value} {p : Pt} (h : KLoop w wr rows ps j q vq) (hp : ps[j]? = some p) (ho : opdB p.1 = true) {k : Int} (hk : k = 0 ∨ k = 1) (hl : leafK rows p = toR k)
    (hown : w'.ownsRow w.heap.size 149 1 vq' (q.length + 1) (q.map (.int .i64) ++ [.int .i64 k])) (hb : Below w.heap.size w w') : KLoop w w' rows ps (j + 1) (q ++ [k]) vq' := by
  have hd := drop_cons hp
  refine ⟨?_, ?_, ?_, by simpa using hown, hb⟩
  · intro x hx
    simp at hx
    rcases hx with hx | rfl
    · exact h.bit x hx
    · exact hk
  · have := h.dp
    rw [hd] at this
    simp only [dpt, ho, if_true] at this
    simpa using this
  · have := h.ev
    rw [hd] at this
    simp only [kEval, ho, if_true, hl] at this
    rw [← this]
    simp
theorem KLoop.neg {w wr w' : World} {rows : List Int} {ps : List Pt} {j : Nat} {q : List Int} {vq : Value} {p : Pt} (h : KLoop w wr rows ps j q vq) (hp : ps[j]? = some p) (ho : opdB p.1 = false) (h126 : p.1 = 126)
    (hown : w'.ownsRow w.heap.size 149 1 vq q.length (q.map (.int .i64))) (hb : Below w.heap.size w w') : KLoop w w' rows ps (j + 1) q vq := by
  have hd := drop_cons hp
  have e1 : (p.1 == 126) = true := by simp [h126]
  refine ⟨h.bit, ?_, ?_, hown, hb⟩
  · have := h.dp
    rw [hd] at this
    simp only [dpt, ho, e1, if_true, Bool.false_eq_true, if_false] at this
    split at this
    · exact this
    · cases this
  · have := h.ev
    rw [hd] at this
    simp only [kEval, ho, e1, if_true, Bool.false_eq_true, if_false] at this
    exact this
/-- At an operation there are two on the pile. -/
theorem KLoop.two {w wr : World} {rows : List Int} {ps : List Pt} {j : Nat} {q : List Int} {vq : Value} {p : Pt} (h : KLoop w wr rows ps j q vq) (hp : ps[j]? = some p) (ho : opdB p.1 = false) (h126 : ¬ p.1 = 126) : opB p.1 = true ∧ 2 ≤ q.length := by
  have hd := drop_cons hp
  have e1 : (p.1 == 126) = false := by simpa using h126
  have := h.dp
  rw [hd] at this
  simp only [dpt, ho, e1, Bool.false_eq_true, if_false] at this
  split at this
  · rename_i hh; simpa using hh
  · cases this
theorem KLoop.join {w wr w' : World} {rows : List Int} {ps : List Pt} {j : Nat} {q : List Int} {x y : Int} {vq vq' : Value} {p : Pt} (h : KLoop w wr rows ps j (q ++ [x, y]) vq) (hp : ps[j]? = some p) (ho : opB p.1 = true) (hok : (jk p.1 x y).2 = true)
    (hown : w'.ownsRow w.heap.size 149 1 vq' (q.length + 1) ((q ++ [(jk p.1 x y).1]).map (.int .i64))) (hb : Below w.heap.size w w') : KLoop w w' rows ps (j + 1) (q ++ [(jk p.1 x y).1]) vq' := by
  have hd := drop_cons hp
  have ho2 := opd_op ho
  have hj := jk_join p.1 x y ho (h.bit x (by simp)) (h.bit y (by simp))
  rw [hok, if_pos rfl] at hj
  refine ⟨?_, ?_, ?_, by simpa using hown, hb⟩
  · intro z hz
    simp at hz
    rcases hz with hz | rfl
    · exact h.bit z (by simp [hz])
    · exact hj.2
  · have := h.dp
    rw [hd] at this
    simp [dpt, ho2.1, ho2.2, ho] at this
    simpa using this
  · have := h.ev
    rw [hd] at this
    simp [kEval, ho2.1, ho2.2] at this
    rw [← this, hj.1]
    simp
theorem KLoop.bad {w wr : World} {rows : List Int} {ps : List Pt} {j : Nat} {q : List Int} {x y : Int} {vq : Value} {p : Pt} (h : KLoop w wr rows ps j (q ++ [x, y]) vq) (hp : ps[j]? = some p) (ho : opB p.1 = true) (hok : (jk p.1 x y).2 = false) (hk : ∃ k, kEval rows ps [] = [k]) : kindP rows ps = 0 := by
  have hd := drop_cons hp
  have ho2 := opd_op ho
  have hj := jk_join p.1 x y ho (h.bit x (by simp)) (h.bit y (by simp))
  rw [hok, if_neg (by simp)] at hj
  obtain ⟨k, hk⟩ := hk
  have := h.ev
  rw [hd] at this
  simp [kEval, ho2.1, ho2.2, hj.1] at this
  have h0 := zero_stays rows (ps.drop (j + 1)) (0 :: (q.map toR).reverse) (by simp)
  rw [← List.map_reverse] at h0
  simp only [List.map_reverse] at h0 this
  rw [this, hk] at h0
  simp at h0
  unfold kindP
  rw [hk, ← h0]; rfl
theorem KLoop.done {w wr : World} {rows : List Int} {ps : List Pt} {j : Nat} {q : List Int} {vq : Value} (h : KLoop w wr rows ps j q vq) (hj : ps.length ≤ j) : ∃ x, q = [x] ∧ (x = 0 ∨ x = 1) ∧ kindP rows ps = toR x := by
  have hd := List.drop_eq_nil_of_le hj
  have h1 := h.dp
  rw [hd] at h1
  simp [dpt] at h1
  obtain ⟨x, rfl⟩ := List.length_eq_one_iff.1 h1
  refine ⟨x, rfl, h.bit x (by simp), ?_⟩
  have := h.ev
  rw [hd] at this
  unfold kindP
  rw [← this]; rfl

set_option maxRecDepth 100000 in
set_option maxHeartbeats 4000000 in
theorem rowKind_any (vp v : Value) (ps : List Pt) (ks : List Int) (B : Nat) (w : World) (hp : w.ownsRow B 146 2 vp ps.length (cellsP ps)) (hown : w.ownsRow B 149 1 v ks.length (ks.map (.int .i64)))
    (hks : ∀ x ∈ ks, x = 0 ∨ x = 1) (hn : ∀ p ∈ ps, oldB p.1 = true → 0 ≤ p.2 ∧ p.2.toNat < ks.length) (hdp : dpt ps 0 = some 1) (hk : ∃ k, kEval (ks.map toR) ps [] = [k]) (hpl : ps.length ≤ 200) :
    Calls Tryz.prog 74 #[.agg #[vp], v] w fun e w' => ∃ kp ok, e = .returned (.tuple #[.int .i64 kp, .bool ok]) ∧ (kp = 0 ∨ kp = 1) ∧ kindP (ks.map toR) ps = (bif ok then toR kp else 0) ∧ Below w.heap.size w w' := by
  obtain ⟨ii, hi, hz0, hz1, hz2⟩ := info_parts info_kind
  obtain ⟨aop, capp, rfl⟩ := ownsRow_form hp
  obtain ⟨aok, capk, rfl⟩ := ownsRow_form hown
  have Hp := hide hp
  have Ho := hide hown
  have Hks := hide hks
  have Hn := hide hn
  have Hk := hide hk
  have Hst : Hid (KLoop w (w.alloc (.cells #[.slice aop ps.length capp] 118)) (ks.map toR) ps 0 [] (.slice none 0 0)) := ⟨by simp, hdp, rfl, World.ownsRow_nil _ _ _ _, (Below.refl _ _).alloc (Nat.le_refl _) _⟩
  clear hp hown hks hn hk hdp
  go_enter Tryz.func74, Tryz.ntmps74
  go_wp2_with fail
  go_loopw [6, 15] (fun vq i wr => ∃ j : Nat, ∃ q : List Int, j ≤ ps.length ∧ i = .int .i64 j ∧ q.length ≤ j ∧ w.heap.size < wr.heap.size ∧ Hid (KLoop w wr (ks.map toR) ps j q vq)) (fun _ i _ => ps.length - (intOf i).toNat)
  case atStart => exact ⟨0, [], by omega, rfl, by simp, by simp, unhide Hst⟩
  case round =>
    obtain ⟨j, q, hj, rfl, hq, hsz, Hl⟩ := hrel
    obtain ⟨aoq, capq, hvq⟩ := ownsRow_form (unhide Hl).own
    subst hvq
    by_cases hlt : j < ps.length
    · obtain ⟨pj, hpj⟩ : ∃ pj, ps[j]? = some pj := ⟨ps[j], List.getElem?_eq_getElem hlt⟩
      obtain ⟨g2, _, e1, hg2, hg2'⟩ := ownsRow_some (unhide Hp) (by omega)
      simp only [Value.slice.injEq, true_and] at e1
      obtain ⟨rfl, rfl⟩ := e1
      have hc := pair_get (fun p : Pt => Value.int .u8 p.1) (fun p => Value.int .i64 p.2) ps j pj hpj
      have hro := ownsRow_below (unhide Hp) (unhide Hl).bel
      have d1 := ownsRow_cell hro (j := j * 2) hc.1
      have d2 := ownsRow_cell hro (j := j * 2 + 1) hc.2
      have Hnj := hide (unhide Hn pj (List.mem_of_getElem? hpj))
      have Hpj := hide hpj
      clear hro hc hpj
      obtain ⟨s, n⟩ := pj
      simp only at d1 d2 Hnj
      go_wp2_with fail
      refine (isOperand_any s n _).mono ?_
      rintro e w3 ⟨rfl, hb3⟩
      have f0 := hb3.cell (p := ⟨wr.heap.size, 0, none⟩) (by simp)
      have f1 := hb3.cell (p := ⟨wr.heap.size, 1, none⟩) (by simp)
      have hb3s := hb3.size
      simp at f0 f1 hb3s
      have Hb3 : Hid (Below w.heap.size w w3) := ((unhide Hl).bel.alloc (by omega) _).then' (by simp; omega) hb3
      have Hq3 := hide (ownsRow_below ((unhide Hl).own.alloc _) hb3)
      clear hb3
      cases ho : opdB s with
      | true =>
        have Hoo := hide ho
        go_wp2_with fail
        refine (operandKind_any s n _ ks B _ (by exact ownsRow_below (unhide Ho) (unhide Hb3)) (unhide Hks) (unhide Hnj)).mono ?_
        rintro e w4 ⟨kk, rfl, hkk, hleaf, hb4⟩
        have Hb4 := hide ((unhide Hb3).then' (by omega) hb4)
        have Hq4 := hide (ownsRow_below (unhide Hq3) hb4)
        have hb4s := hb4.size
        have Hleaf := hide hleaf
        have Hkk := hide hkk
        clear hb4 hleaf hkk
        go_wp2_with (first
          | (at_builtin; refine wpList_append_own _ rfl (.tmp 23) (.tmp 27) 148 rfl w.heap.size 149 ii (.int .i64 0) 1 8 Tryz.underlying148 hi hz0 hz1 hz2 rfl (by decide) (.slice aoq q.length capq) q.length _ rfl ((unhide Hq4).alloc _) ⟨w4.heap.size, 0, none⟩ 1 1 [.int .i64 kk] rfl rfl (cell_one_new _ _ _) (fun x hx => by simp at hx; subst hx; rfl) (by unfold maxLen; omega) (by omega) (by simp; omega) ?_; intro vq' w5 hown5 hgr5 _; obtain ⟨gf, cf, rfl, hgf, hgf'⟩ := ownsRow_some hown5 (Nat.succ_pos _)))
        have hb5 : Below w.heap.size w w5 := ((unhide Hb4).alloc (by omega) _).grown hgr5 (by simp; omega) (fun g hg => ((unhide Hq4).lt g hg).1)
        have Hl5 := hide ((unhide Hl).opnd (unhide Hpj) (unhide Hoo) (unhide Hkk) (unhide Hleaf) hown5 hb5)
        have hsz5 := hgr5.size
        simp at hsz5
        clear hown5 hgr5 hb5
        go_wp2_with fail
        go_roundw
        case rel => exact ⟨j + 1, q ++ [kk], by omega, by go_num, by simp; omega, by omega, unhide Hl5⟩
        case measure => simp [intOf]; omega
      | false =>
        have Hoo := hide ho
        by_cases h126 : s = 126
        · subst h126
          have Hl5 := hide ((unhide Hl).neg (unhide Hpj) (unhide Hoo) rfl (unhide Hq3) (unhide Hb3))
          go_wp2_with fail
          go_roundw
          case rel => exact ⟨j + 1, q, by omega, by go_num, by omega, by omega, unhide Hl5⟩
          case measure => simp [intOf]; omega
        · have n126 : (s != 126) = true := by simp [bne, h126]
          have h2 := (unhide Hl).two (unhide Hpj) (unhide Hoo) h126
          obtain ⟨qq, x, y, rfl⟩ := snoc2 q h2.2
          have Hop := hide h2.1
          clear h126 h2
          have hlen : (qq ++ [x, y]).length = qq.length + 2 := by simp
          simp only [hlen] at Hq3 hq ⊢
          obtain ⟨gp, _, e1, hgp, hgp'⟩ := ownsRow_some (unhide Hq3) (by omega)
          simp only [Value.slice.injEq, true_and] at e1
          obtain ⟨rfl, rfl⟩ := e1
          have p1 := ownsRow_cell (unhide Hq3) (j := qq.length) (u := .int .i64 x) (by simp)
          have p2 := ownsRow_cell (unhide Hq3) (j := qq.length + 1) (u := .int .i64 y) (by simp)
          have hx01 := (unhide Hl).bit x (by simp)
          have hy01 := (unhide Hl).bit y (by simp)
          have Hx01 := hide hx01
          have Hy01 := hide hy01
          have hz := ownsRow_frozen (unhide Hq3) qq.length
          clear hlen hx01 hy01
          go_wp2_with fail
          go_quiet ((go_at_call 97; exact Calls.quiet_of_same (joinKinds_any s x y _ (unhide Hop) (unhide Hx01) (unhide Hy01))))
          cases hok : (jk s x y).2 with
          | false =>
            have Hbad := hide ((unhide Hl).bad (unhide Hpj) (unhide Hop) hok (unhide Hk))
            go_wp2_with fail
            go_ret2
            exact ⟨0, false, rfl, .inl rfl, unhide Hbad, (unhide Hb3).drewN _⟩
          | true =>
            obtain ⟨kk, hkk⟩ : ∃ kk, (jk s x y).1 = kk := ⟨_, rfl⟩
            rw [hkk]
            have Hown5 := fun nn => own_pop2 (w := w3.drewN nn) (unhide Hq3) kk
            have Hl5 : ∀ nn, KLoop w ((w3.drewN nn).setCell ⟨gp, qq.length, none⟩ (.int .i64 kk)) (ks.map toR) ps (j + 1) (qq ++ [kk]) (.slice (some ⟨gp, 0, none⟩) (qq.length + 1) capq) := by
              intro nn
              have := (unhide Hl).join (unhide Hpj) (unhide Hop) hok (by rw [hkk]; exact Hown5 nn) (((unhide Hb3).drewN nn).setCell hgp _)
              rw [hkk] at this
              exact this
            have HL := hide Hl5
            have e2 : (qq.length : Int) + 2 - 1 = ((qq.length + 1 : Nat) : Int) := by omega
            have hcap : qq.length + 1 ≤ capq := by
              rcases (unhide Hq3).2 with ⟨h0, _⟩ | ⟨g', cap', cur, hv, _, _, hn, _⟩
              · cases h0
              · cases hv; omega
            rw [e2]
            clear hok hkk Hown5 Hl5 e2
            go_wp2_with fail
            go_roundw
            case rel =>
              refine ⟨j + 1, qq ++ [kk], by omega, by go_num, by simp; omega, by simp [World.setCell, World.drewN]; omega, ?_⟩
              exact unhide HL _
            case measure => simp [intOf]; omega
    · obtain ⟨x, rfl, hx, hkp⟩ := (unhide Hl).done (by omega)
      obtain ⟨g, _, e1, hg, hg'⟩ := ownsRow_some (unhide Hl).own (by simp)
      simp only [Value.slice.injEq, true_and] at e1
      obtain ⟨rfl, rfl⟩ := e1
      have c0 := ownsRow_cell (unhide Hl).own (j := 0) rfl
      have Hx := hide hx
      have Hkp := hide hkp
      clear hx hkp
      go_wp2_with fail
      go_ret2
      exact ⟨x, true, rfl, unhide Hx, unhide Hkp, (unhide Hl).bel⟩

end Go.Proofs.YtdchbenfccofpabGreatDoor
namespace Go.Proofs.YtdchbenfccofpabGreatDoor
open Go.RowKit Db

theorem blk_second (w : World) (A B C : Array Value) (T : TypeId) : Blk (((w.alloc (.cells A T)).alloc (.cells B T)).alloc (.cells C T)) (w.heap.size + 1) B T := by
  have := (Blk.new (w.alloc (.cells A T)) B T).alloc (.cells C T)
  simpa using this
theorem blk_third (w : World) (A B C : Array Value) (T : TypeId) : Blk (((w.alloc (.cells A T)).alloc (.cells B T)).alloc (.cells C T)) (w.heap.size + 2) C T := by
  have := Blk.new ((w.alloc (.cells A T)).alloc (.cells B T)) C T
  simpa using this
theorem brk_size (x : Pc) (k : Nat) : (brk x k).length ≤ x.1.length + 2 := by
  unfold brk; split <;> simp

set_option maxRecDepth 100000 in
set_option maxHeartbeats 1000000 in
theorem showOpposite_any (x : ByteArray) (r : Nat) (w : World) (hx : x.size ≤ 900000) :
    Calls Tryz.prog 77 #[.agg #[.string x, .int .i64 (r : Int)]] w fun e w' => ∃ u : ByteArray, e = .returned (.agg #[.string u, .int .i64 3]) ∧ L u = 45 :: brk (L x, r) 3 ∧ Below w.heap.size w w' := by
  go_enter Tryz.func77, Tryz.ntmps77
  go_wp2_with fail
  refine (bracketed_any x r 3 _ (by omega)).mono ?_
  rintro e w1 ⟨u, rfl, hu, hb⟩
  have hus : u.size ≤ 1000000 := by
    rw [size_L, hu]
    have := brk_size (L x, r) (3 : Int).toNat
    simp only [L_length] at this
    omega
  have HB : Hid (Blk w1 (w.heap.size + 1) #[.string ⟨#[]⟩, .int .i64 0] 154) := by
    refine Blk.kept ?_ hb
    have := Blk.new (w.alloc (.cells #[.string x, .int .i64 (r : Int)] 154)) #[.string ⟨#[]⟩, .int .i64 0] 154
    simpa using this
  have Hb : Hid (Below w.heap.size w w1) := (((Below.refl _ _).alloc (Nat.le_refl _) _).alloc (by simp) _).then' (by simp; omega) hb
  have Hu := hide hu
  have c0 := (unhide HB).cell 0
  have c1 := (unhide HB).cell 1
  have z0 := (unhide HB).frozen 0
  have z1 := (unhide HB).frozen 1
  simp only [List.getElem?_toArray, List.getElem?_cons_zero, List.getElem?_cons_succ] at c0 c1
  clear hu hb
  go_wp2_with fail
  refine bodyPost_ret (v := .agg #[.string (⟨#[45]⟩ ++ u), .int .i64 3]) (by simp [results, Tryz.results77, go_sem, c0, c1]) rfl ⟨_, rfl, ?_, ?_⟩
  · rw [L_append, unhide Hu]; rfl
  · exact ((unhide Hb).setCell (by simp) _).setCell (by simp) _

set_option maxRecDepth 100000 in
set_option maxHeartbeats 2000000 in
theorem showOperation_any (o : UInt8) (x y : ByteArray) (r q : Nat) (w : World) (hx : x.size ≤ 400000) (hy : y.size ≤ 400000) :
    Calls Tryz.prog 78 #[.int .u8 (o.toNat : Int), .agg #[.string x, .int .i64 (r : Int)], .agg #[.string y, .int .i64 (q : Int)]] w fun e w' =>
      ∃ u : ByteArray, e = .returned (.agg #[.string u, .int .i64 (rkS o.toNat : Int)]) ∧ L u = brk (L x, r) (rkS o.toNat) ++ o :: brk (L y, q) (rkS o.toNat + 1) ∧ Below w.heap.size w w' := by
  obtain ⟨k, hk, hk2⟩ : ∃ k : Nat, rkS (o.toNat : Int) = k ∧ (k = 1 ∨ k = 2) := ⟨_, rfl, by unfold rkS; split <;> simp⟩
  have Hk := hide hk
  have hor : ((o.toNat : Int) == 42) = true ∧ k = 2 ∨ ((o.toNat : Int) == 42) = false ∧ ((o.toNat : Int) == 47) = true ∧ k = 2 ∨ ((o.toNat : Int) == 42) = false ∧ ((o.toNat : Int) == 47) = false ∧ k = 1 := by
    unfold rkS at hk
    cases h1 : ((o.toNat : Int) == 42) <;> cases h2 : ((o.toNat : Int) == 47) <;> simp [h1, h2] at hk ⊢ <;> omega
  rw [hk]
  clear hk hk2
  rcases hor with ⟨h1, rfl⟩ | ⟨h1, h2, rfl⟩ | ⟨h1, h2, rfl⟩
  all_goals
    go_enter Tryz.func78, Tryz.ntmps78
    go_wp2_with fail
    refine (bracketed_any x r _ _ (by omega)).mono ?_
    rintro e w1 ⟨u1, rfl, hu1, hb1⟩
    have hs1 : u1.size ≤ 400002 := by
      rw [size_L, hu1]
      refine Nat.le_trans (brk_size _ _) ?_
      simp only [L_length]
      omega
    have HB1 : Hid (Blk w1 (w.heap.size + 1) #[.string y, .int .i64 (q : Int)] 154) := (blk_second w _ _ _ _).kept hb1
    have HB2 : Hid (Blk w1 (w.heap.size + 2) #[.string ⟨#[]⟩, .int .i64 0] 154) := (blk_third w _ _ _ _).kept hb1
    have Hb1 : Hid (Below w.heap.size w w1) := ((((Below.refl _ _).alloc (Nat.le_refl _) _).alloc (by simp) _).alloc (by simp; omega) _).then' (by simp; omega) hb1
    have Hu1 := hide hu1
    have f0 := (unhide HB1).cell 0
    have f1 := (unhide HB1).cell 1
    have hw1 := hb1.size
    simp only [List.getElem?_toArray, List.getElem?_cons_zero, List.getElem?_cons_succ] at f0 f1
    simp at hw1
    clear hu1 hb1
    go_wp2_with fail
    refine (bracketed_any y q _ _ (by omega)).mono ?_
    rintro e w2 ⟨u2, rfl, hu2, hb2⟩
    have hs2 : u2.size ≤ 400002 := by
      rw [size_L, hu2]
      refine Nat.le_trans (brk_size _ _) ?_
      simp only [L_length]
      omega
    have HB3 := hide ((unhide HB2).kept hb2)
    have Hb2 := hide ((unhide Hb1).then hb2)
    have Hu2 := hide hu2
    clear hu2 hb2 f0 f1
    go_wp2_with fail
    refine (signText_any o _).mono ?_
    rintro e w3 ⟨u3, rfl, hu3, hb3⟩
    have hs3 : u3.size = 1 := by rw [size_L, hu3]; rfl
    have HB4 := hide ((unhide HB3).kept hb3)
    have Hb3 := hide ((unhide Hb2).then hb3)
    have Hu3 := hide hu3
    have g0 := (unhide HB4).cell 0
    have g1 := (unhide HB4).cell 1
    have y0 := (unhide HB4).frozen 0
    have y1 := (unhide HB4).frozen 1
    simp only [List.getElem?_toArray, List.getElem?_cons_zero, List.getElem?_cons_succ] at g0 g1
    have hs3' : u3.size ≤ 1 := by omega
    clear hu3 hb3 hs3
    go_wp2_with fail
    first
      | refine bodyPost_ret (v := .agg #[.string (u1 ++ u3 ++ u2), .int .i64 2]) (by simp [results, Tryz.results78, go_sem, g0, g1]) rfl ⟨_, rfl, ?_, ?_⟩
      | refine bodyPost_ret (v := .agg #[.string (u1 ++ u3 ++ u2), .int .i64 1]) (by simp [results, Tryz.results78, go_sem, g0, g1]) rfl ⟨_, rfl, ?_, ?_⟩
    · rw [L_append, L_append, unhide Hu1, unhide Hu2, unhide Hu3]
      show brk _ _ ++ [o] ++ brk _ _ = brk _ _ ++ o :: brk _ _
      rw [List.append_assoc]; rfl
    · exact ((unhide Hb3).setCell (by show _ ≤ w.heap.size + 2; omega) _).setCell (by show _ ≤ w.heap.size + 2; omega) _

end Go.Proofs.YtdchbenfccofpabGreatDoor
namespace Go.Proofs.YtdchbenfccofpabGreatDoor
open Go.RowKit Db

/-- A numeral is short. -/
theorem itoa_short (n : Int) (h0 : -9223372036854775808 ≤ n) (h1 : n ≤ 9223372036854775807) {u : ByteArray} (hu : L u = Lib.itoa n) : u.size ≤ 21 := by
  rw [size_L, hu]; exact Lib.itoa_length_le n h0 h1
theorem opd_u8 {s : Int} (h : opdB s = true) : s = ((u8 s).toNat : Int) := by
  simp [opdB, selB, oldB] at h
  rcases h with (rfl | (rfl | rfl) | rfl) | rfl | rfl <;> rfl
theorem opB_u8 {s : Int} (h : opB s = true) : s = ((u8 s).toNat : Int) := by
  simp [opB] at h
  rcases h with ((rfl | rfl) | rfl) | rfl <;> rfl

set_option maxRecDepth 100000 in
set_option maxHeartbeats 1000000 in
theorem word_any (s n : Int) (w : World) (ho : opdB s = true) (h0 : -9223372036854775808 ≤ n) (h1 : n ≤ 9223372036854775807) (ht : Tab w) :
    Calls Tryz.prog 76 #[.agg #[.int .u8 s, .int .i64 n]] w fun e w' => ∃ u : ByteArray, e = .returned (.string u) ∧ L u = wordP (s, n) ∧ Below w.heap.size w w' := by
  have Ht := hide ht
  have Ho := hide ho
  by_cases h48 : s = 48
  · subst h48
    clear ho ht
    go_enter Tryz.func76, Tryz.ntmps76
    go_wp2_with fail
    refine (itoa_any n _ h0 h1 ((unhide Ht).below (by exact (Below.refl _ _).alloc (Nat.le_refl _) _))).mono ?_
    rintro e w1 ⟨u, rfl, hu, hb⟩
    have Hu := hide hu
    have Hb : Hid (Below w.heap.size w w1) := ((Below.refl _ _).alloc (Nat.le_refl _) _).then' (by simp) hb
    clear hu hb
    go_wp2_with fail
    go_ret
    exact ⟨u, rfl, unhide Hu, unhide Hb⟩
  · have n48 : (s == 48) = false := by simpa using h48
    have N48 := hide n48
    obtain ⟨c, hc⟩ : ∃ c : UInt8, u8 s = c := ⟨_, rfl⟩
    have hs := opd_u8 ho
    rw [hc] at hs
    subst hs
    clear h48 ho ht
    go_enter Tryz.func76, Tryz.ntmps76
    go_wp2_with fail
    refine (signText_any c _).mono ?_
    rintro e w1 ⟨u1, rfl, hu1, hb1⟩
    have f0 := hb1.cell (p := ⟨w.heap.size, 0, none⟩) (by simp)
    have f1 := hb1.cell (p := ⟨w.heap.size, 1, none⟩) (by simp)
    have hb1s := hb1.size
    simp at f0 f1 hb1s
    have hs1 : u1.size ≤ 1 := by rw [size_L, hu1]; exact Nat.le_refl _
    have Hu1 := hide hu1
    have Hb1 : Hid (Below w.heap.size w w1) := ((Below.refl _ _).alloc (Nat.le_refl _) _).then' (by simp) hb1
    clear hu1 hb1
    go_wp2_with fail
    refine (isOperand_any (c.toNat : Int) n _).mono ?_
    rintro e w2 ⟨rfl, hb2⟩
    have g1 := hb2.cell (p := ⟨w.heap.size, 1, none⟩) (by show w.heap.size < _; omega)
    rw [f1] at g1
    have hb2s := hb2.size
    have Hb2 := hide ((unhide Hb1).then hb2)
    rw [unhide Ho]
    clear hb2 f0 f1
    go_wp2_with fail
    refine (itoa_any n _ h0 h1 ((unhide Ht).below (unhide Hb2))).mono ?_
    rintro e w3 ⟨u3, rfl, hu3, hb3⟩
    have hs3 := itoa_short n h0 h1 hu3
    have Hu3 := hide hu3
    have Hb3 := hide ((unhide Hb2).then hb3)
    clear hu3 hb3
    go_wp2_with fail
    go_ret
    refine ⟨_, rfl, ?_, unhide Hb3⟩
    rw [L_append, unhide Hu1, unhide Hu3]
    unfold wordP
    simp only [unhide N48, hc]
    rfl

set_option maxRecDepth 100000 in
set_option maxHeartbeats 1000000 in
theorem showPeriod_any (a b : Int) (w : World) (a0 : 0 ≤ a) (a1 : a ≤ 999999) (b0 : 0 ≤ b) (b1 : b ≤ 999999) (ht : Tab w) :
    Calls Tryz.prog 57 #[.agg #[.int .i64 a, .int .i64 b]] w fun e w' => ∃ u : ByteArray, e = .returned (.string u) ∧ L u = Lib.itoa a ++ 45 :: Lib.itoa b ∧ Below w.heap.size w w' := by
  have Ht := hide ht
  clear ht
  go_enter Tryz.func57, Tryz.ntmps57
  go_wp2_with fail
  refine (itoa_any a _ (by omega) (by omega) ((unhide Ht).below (by exact (Below.refl _ _).alloc (Nat.le_refl _) _))).mono ?_
  rintro e w1 ⟨u1, rfl, hu1, hb1⟩
  have f1 := hb1.cell (p := ⟨w.heap.size, 1, none⟩) (by simp)
  simp at f1
  have hs1 := itoa_short a (by omega) (by omega) hu1
  have Hu1 := hide hu1
  have Hb1 : Hid (Below w.heap.size w w1) := ((Below.refl _ _).alloc (Nat.le_refl _) _).then' (by simp) hb1
  clear hu1 hb1
  go_wp2_with fail
  refine (itoa_any b _ (by omega) (by omega) ((unhide Ht).below (unhide Hb1))).mono ?_
  rintro e w2 ⟨u2, rfl, hu2, hb2⟩
  have hs2 := itoa_short b (by omega) (by omega) hu2
  have Hu2 := hide hu2
  have Hb2 := hide ((unhide Hb1).then hb2)
  clear hu2 hb2
  go_wp2_with fail
  go_ret
  refine ⟨_, rfl, ?_, unhide Hb2⟩
  rw [L_append, L_append, unhide Hu1, unhide Hu2]
  show Lib.itoa a ++ [45] ++ Lib.itoa b = _
  rw [List.append_assoc]; rfl

end Go.Proofs.YtdchbenfccofpabGreatDoor
namespace Go.Proofs.YtdchbenfccofpabGreatDoor
open Go.RowKit Db

abbrev Sw := ByteArray × Nat
def cellsS (q : List Sw) : List Value := q.flatMap fun p => [.string p.1, .int .i64 (p.2 : Int)]
theorem cellsS_append (p q : List Sw) : cellsS (p ++ q) = cellsS p ++ cellsS q := by simp [cellsS]
theorem cellsS_length (p : List Sw) : (cellsS p).length = p.length * 2 := by
  induction p with
  | nil => rfl
  | cons x t ih => show (_ :: _ :: cellsS t).length = _; simp [ih]; omega
def pcs (q : List Sw) : List Pc := (q.map fun p => (L p.1, p.2)).reverse
theorem pcs_snoc (q : List Sw) (x : Sw) : pcs (q ++ [x]) = (L x.1, x.2) :: pcs q := by simp [pcs]
theorem pcs_snoc2 (q : List Sw) (x y : Sw) : pcs (q ++ [x, y]) = (L y.1, y.2) :: (L x.1, x.2) :: pcs q := by simp [pcs]
def szs (q : List Sw) : Nat := (q.map fun p => p.1.size).sum
theorem szs_snoc (q : List Sw) (x : Sw) : szs (q ++ [x]) = szs q + x.1.size := by simp [szs]
theorem szs_snoc2 (q : List Sw) (x y : Sw) : szs (q ++ [x, y]) = szs q + x.1.size + y.1.size := by simp [szs]; omega

theorem info_shown : (Tryz.prog.info? 154).map (fun i => (i.zero, i.size, i.bytes)) = some (some (.agg #[.string ⟨#[]⟩, .int .i64 0]), 2, 24) := by kernel_rfl

/-- The uppermost of a pile is written over. -/
theorem own_last {w : World} {B g cap : Nat} {e : TypeId} {q : List Sw} {x : Sw} (h : w.ownsRow B e 2 (.slice (some ⟨g, 0, none⟩) (q.length + 1) cap) (q.length + 1) (cellsS (q ++ [x]))) (u : ByteArray) (r : Nat) :
    ((w.setCell ⟨g, q.length * 2, none⟩ (.string u)).setCell ⟨g, q.length * 2 + 1, none⟩ (.int .i64 (r : Int))).ownsRow B e 2 (.slice (some ⟨g, 0, none⟩) (q.length + 1) cap) (q.length + 1) (cellsS (q ++ [(u, r)])) := by
  obtain ⟨_, h2⟩ := h
  rcases h2 with ⟨h0, _⟩ | ⟨g', cap', cur, hv, hg, hh, hn, hcap, hsz, htake⟩
  · cases h0
  · cases hv
    refine ⟨by rw [cellsS_length]; simp, .inr ⟨g, cap, (cur.setIfInBounds (q.length * 2) (.string u)).setIfInBounds (q.length * 2 + 1) (.int .i64 (r : Int)), rfl, hg, ?_, hn, hcap, by simpa using hsz, ?_⟩⟩
    · exact Blk.set (Blk.set hh (q.length * 2) (.string u)) (q.length * 2 + 1) (.int .i64 (r : Int))
    · rw [Array.toList_setIfInBounds, Array.toList_setIfInBounds]
      have h1 : (cur.toList.take ((q.length + 1) * 2)).take (q.length * 2) = cellsS q := by
        rw [htake, cellsS_append, List.take_append_of_le_length (by rw [cellsS_length]; omega), List.take_of_length_le (by rw [cellsS_length]; omega)]
      rw [List.take_take, show min (q.length * 2) ((q.length + 1) * 2) = q.length * 2 by omega] at h1
      have hl : q.length * 2 + 2 ≤ cur.toList.length := by
        have := congrArg List.length htake
        rw [cellsS_length] at this
        simp at this
        simp
        omega
      rw [show (q.length + 1) * 2 = q.length * 2 + 1 + 1 by omega, List.take_succ_eq_append_getElem (by simp at hl ⊢; omega), List.take_succ_eq_append_getElem (by simp at hl ⊢; omega)]
      rw [List.take_set_of_le (by omega), List.take_set_of_le (by omega), h1, cellsS_append]
      simp [cellsS]
/-- A pile gives up its uppermost. -/
theorem own_less {w : World} {B g cap : Nat} {e : TypeId} {q : List Sw} {x y : Sw} (h : w.ownsRow B e 2 (.slice (some ⟨g, 0, none⟩) (q.length + 2) cap) (q.length + 2) (cellsS (q ++ [x, y]))) :
    w.ownsRow B e 2 (.slice (some ⟨g, 0, none⟩) (q.length + 1) cap) (q.length + 1) (cellsS (q ++ [x])) := by
  obtain ⟨_, h2⟩ := h
  rcases h2 with ⟨h0, _⟩ | ⟨g', cap', cur, hv, hg, hh, hn, hcap, hsz, htake⟩
  · cases h0
  · cases hv
    refine ⟨by rw [cellsS_length]; simp, .inr ⟨g, cap, cur, rfl, hg, hh, by omega, hcap, hsz, ?_⟩⟩
    have h1 : (cur.toList.take ((q.length + 2) * 2)).take ((q.length + 1) * 2) = cellsS (q ++ [x]) := by
      rw [htake, show q ++ [x, y] = (q ++ [x]) ++ [y] by simp, cellsS_append (q ++ [x]), List.take_append_of_le_length (by rw [cellsS_length]; simp), List.take_of_length_le (by rw [cellsS_length]; simp)]
    rwa [List.take_take, show min ((q.length + 1) * 2) ((q.length + 2) * 2) = (q.length + 1) * 2 by omega] at h1

/-- Where the loop over the parts stands. -/
structure SLoop (w wr : World) (ps : List Pt) (j : Nat) (q : List Sw) (vq : Value) : Prop where
  dp : dpt (ps.drop j) q.length = some 1
  ev : sEval (ps.drop j) (pcs q) = sEval ps []
  own : wr.ownsRow w.heap.size 154 2 vq q.length (cellsS q)
  bel : Below w.heap.size w wr
  sz : szs q ≤ 25 * j
theorem snoc1s (q : List Sw) (h : 1 ≤ q.length) : ∃ r x, q = r ++ [x] := by
  cases hq : q.reverse with
  | nil => simp at hq; subst hq; simp at h
  | cons y t => exact ⟨t.reverse, y, by have := congrArg List.reverse hq; simpa using this⟩
theorem snoc2s (q : List Sw) (h : 2 ≤ q.length) : ∃ r x y, q = r ++ [x, y] := by
  obtain ⟨r, y, rfl⟩ := snoc1s q (by omega)
  simp at h
  obtain ⟨r, x, rfl⟩ := snoc1s r (by omega)
  exact ⟨r, x, y, by simp⟩
theorem SLoop.opnd {w wr w' : World} {ps : List Pt} {j : Nat} {q : List Sw} {vq vq' : Value} {p : Pt} (h : SLoop w wr ps j q vq) (hp : ps[j]? = some p) (ho : opdB p.1 = true) {u : ByteArray} (hu : L u = wordP p) (hs : u.size ≤ 22)
    (hown : w'.ownsRow w.heap.size 154 2 vq' (q.length + 1) (cellsS q ++ [.string u, .int .i64 3])) (hb : Below w.heap.size w w') : SLoop w w' ps (j + 1) (q ++ [(u, 3)]) vq' := by
  have hd := drop_cons hp
  refine ⟨?_, ?_, by rw [cellsS_append]; simpa [cellsS] using hown, hb, ?_⟩
  · have := h.dp
    rw [hd] at this
    simp only [dpt, ho, if_true] at this
    simpa using this
  · have := h.ev
    rw [hd] at this
    simp only [sEval, ho, if_true] at this
    rw [← this, pcs_snoc, hu]
  · rw [szs_snoc]
    have := h.sz
    show _ + u.size ≤ _
    omega
/-- At a - there is one on the pile. -/
theorem SLoop.one {w wr : World} {ps : List Pt} {j : Nat} {q : List Sw} {vq : Value} {p : Pt} (h : SLoop w wr ps j q vq) (hp : ps[j]? = some p) (ho : opdB p.1 = false) (h126 : p.1 = 126) : 1 ≤ q.length := by
  have hd := drop_cons hp
  have e1 : (p.1 == 126) = true := by simp [h126]
  have := h.dp
  rw [hd] at this
  simp only [dpt, ho, e1, if_true, Bool.false_eq_true, if_false] at this
  split at this
  · rename_i hh; simpa using hh
  · cases this
theorem SLoop.neg {w wr w' : World} {ps : List Pt} {j : Nat} {q : List Sw} {x : Sw} {vq : Value} {p : Pt} (h : SLoop w wr ps j (q ++ [x]) vq) (hp : ps[j]? = some p) (ho : opdB p.1 = false) (h126 : p.1 = 126) {u : ByteArray} (hu : L u = 45 :: brk (L x.1, x.2) 3)
    (hown : w'.ownsRow w.heap.size 154 2 vq (q.length + 1) (cellsS (q ++ [(u, 3)]))) (hb : Below w.heap.size w w') : SLoop w w' ps (j + 1) (q ++ [(u, 3)]) vq := by
  have hd := drop_cons hp
  have e1 : (p.1 == 126) = true := by simp [h126]
  refine ⟨?_, ?_, by simpa using hown, hb, ?_⟩
  · have := h.dp
    rw [hd] at this
    simp only [dpt, ho, e1, if_true, Bool.false_eq_true, if_false] at this
    split at this
    · simpa using this
    · cases this
  · have := h.ev
    rw [hd, pcs_snoc] at this
    simp only [sEval, ho, e1, if_true, Bool.false_eq_true, if_false] at this
    rw [← this, pcs_snoc, hu]
  · have hs := h.sz
    rw [szs_snoc] at hs ⊢
    have := congrArg List.length hu
    rw [L_length] at this
    have h2 := brk_size (L x.1, x.2) 3
    simp only [L_length, List.length_cons] at this h2
    show _ + u.size ≤ _
    omega
/-- At an operation there are two on the pile. -/
theorem SLoop.two {w wr : World} {ps : List Pt} {j : Nat} {q : List Sw} {vq : Value} {p : Pt} (h : SLoop w wr ps j q vq) (hp : ps[j]? = some p) (ho : opdB p.1 = false) (h126 : ¬ p.1 = 126) : opB p.1 = true ∧ 2 ≤ q.length := by
  have hd := drop_cons hp
  have e1 : (p.1 == 126) = false := by simpa using h126
  have := h.dp
  rw [hd] at this
  simp only [dpt, ho, e1, Bool.false_eq_true, if_false] at this
  split at this
  · rename_i hh; simpa using hh
  · cases this
theorem SLoop.join {w wr w' : World} {ps : List Pt} {j : Nat} {q : List Sw} {x y : Sw} {vq vq' : Value} {p : Pt} (h : SLoop w wr ps j (q ++ [x, y]) vq) (hp : ps[j]? = some p) (ho : opB p.1 = true) {u : ByteArray} (hu : L u = brk (L x.1, x.2) (rkS p.1) ++ u8 p.1 :: brk (L y.1, y.2) (rkS p.1 + 1))
    (hown : w'.ownsRow w.heap.size 154 2 vq' (q.length + 1) (cellsS (q ++ [(u, rkS p.1)]))) (hb : Below w.heap.size w w') : SLoop w w' ps (j + 1) (q ++ [(u, rkS p.1)]) vq' := by
  have hd := drop_cons hp
  have ho2 := opd_op ho
  refine ⟨?_, ?_, by simpa using hown, hb, ?_⟩
  · have := h.dp
    rw [hd] at this
    simp [dpt, ho2.1, ho2.2, ho] at this
    simpa using this
  · have := h.ev
    rw [hd, pcs_snoc2] at this
    simp only [sEval, ho2.1, ho2.2, Bool.false_eq_true, if_false] at this
    rw [← this, pcs_snoc, hu]
  · have hs := h.sz
    rw [szs_snoc2] at hs
    rw [szs_snoc]
    have := congrArg List.length hu
    rw [L_length] at this
    have h1 := brk_size (L x.1, x.2) (rkS p.1)
    have h2 := brk_size (L y.1, y.2) (rkS p.1 + 1)
    simp only [L_length, List.length_cons, List.length_append] at this h1 h2
    show _ + u.size ≤ _
    omega
theorem SLoop.done {w wr : World} {ps : List Pt} {j : Nat} {q : List Sw} {vq : Value} {z : Pc} (h : SLoop w wr ps j q vq) (hj : ps.length ≤ j) (hz : ShowR ps z) : ∃ x, q = [x] ∧ L x.1 = z.1 := by
  have hd := List.drop_eq_nil_of_le hj
  have h1 := h.dp
  rw [hd] at h1
  simp [dpt] at h1
  obtain ⟨x, rfl⟩ := List.length_eq_one_iff.1 h1
  refine ⟨x, rfl, ?_⟩
  have := h.ev
  rw [hd] at this
  have h2 := hz [] []
  rw [List.append_nil] at h2
  rw [h2] at this
  simp [sEval, pcs] at this
  rw [← this]

end Go.Proofs.YtdchbenfccofpabGreatDoor
namespace Go.Proofs.YtdchbenfccofpabGreatDoor
open Go.RowKit Db

theorem word_short {s n : Int} (h0 : -9223372036854775808 ≤ n) (h1 : n ≤ 9223372036854775807) {u : ByteArray} (hu : L u = wordP (s, n)) : u.size ≤ 22 := by
  rw [size_L, hu]
  have := Lib.itoa_length_le n h0 h1
  unfold wordP
  split
  · show (Lib.itoa n).length ≤ 22; omega
  · show (u8 s :: Lib.itoa n).length ≤ 22; rw [List.length_cons]; omega

theorem kept_cell {W W' : World} (h : Below W.heap.size W W') {a : Addr} {v : Value} (hc : W.cell? a = some v) : W'.cell? a = some v := by
  rw [h.cell (World.block_lt_of_cell? W a hc)]; exact hc

theorem kept_alloc {W W' : World} {o : Obj} (h : Below W.heap.size W W') {a : Addr} {v : Value} (hc : W.cell? a = some v) : (W'.alloc o).cell? a = some v := by
  have h1 := kept_cell h hc
  rw [World.cell?_alloc_some _ _ _ (by rw [h1]; rfl)]; exact h1

/-- The piece that was joined lies in its block. -/
structure CutR (w3 wx : World) (g : Nat) (u : ByteArray) (k : Nat) : Prop where
  ge : w3.heap.size ≤ g
  blk : Blk wx g #[.string u, .int .i64 (k : Int)] 154
  bel : Below w3.heap.size w3 wx
theorem cutA {w3 w4 : World} {u : ByteArray} {k : Nat} (h : Below (w3.drew.alloc (.cells #[.string ⟨#[]⟩, .int .i64 0] 154)).heap.size (w3.drew.alloc (.cells #[.string ⟨#[]⟩, .int .i64 0] 154)) w4) :
    CutR w3 ((w4.setCell ⟨w3.heap.size, 0, none⟩ (.string u)).setCell ⟨w3.heap.size, 1, none⟩ (.int .i64 (k : Int))) w3.heap.size u k := by
  have B0 : Blk w4 w3.heap.size #[.string ⟨#[]⟩, .int .i64 0] 154 := (Blk.new w3.drew _ _).kept h
  have B1 := (B0.set 0 (.string u)).set 1 (.int .i64 (k : Int))
  have h0 : Below w3.heap.size w3.drew w4 := ((Below.refl _ w3.drew).alloc (Nat.le_refl _) _).then' (by simp) h
  exact ⟨Nat.le_refl _, by simpa using B1, (h0.undrew.setCell (by simp) _).setCell (by simp) _⟩
theorem cutB {w3 w4 : World} {u : ByteArray} {k : Nat} (h : Below w3.drew.heap.size w3.drew w4) :
    CutR w3 (w4.alloc (.cells #[.string u, .int .i64 (k : Int)] 154)) w4.heap.size u k := by
  have h0 : Below w3.heap.size w3 w4 := Below.undrew h
  exact ⟨h0.size, Blk.new _ _ _, h0.alloc h0.size _⟩

set_option maxRecDepth 100000 in
set_option maxHeartbeats 4000000 in
theorem showRow_any (vp : Value) (ps : List Pt) (B : Nat) (w : World) (hp : w.ownsRow B 146 2 vp ps.length (cellsP ps)) (hn : ∀ p ∈ ps, -9223372036854775808 ≤ p.2 ∧ p.2 ≤ 9223372036854775807)
    (hdp : dpt ps 0 = some 1) (z : Pc) (hz : ShowR ps z) (hpl : ps.length ≤ 200) (ht : Tab w) :
    Calls Tryz.prog 58 #[.agg #[vp]] w fun e w' => ∃ u : ByteArray, e = .returned (.string u) ∧ L u = z.1 ∧ u.size ≤ 5000 ∧ Below w.heap.size w w' := by
  obtain ⟨ii, hi, hz0, hz1, hz2⟩ := info_parts info_shown
  obtain ⟨aop, capp, rfl⟩ := ownsRow_form hp
  have Hp := hide hp
  have Hn := hide hn
  have Hz := hide hz
  have Ht := hide ht
  have Hst : Hid (SLoop w (w.alloc (.cells #[.slice aop ps.length capp] 118)) ps 0 [] (.slice none 0 0)) := ⟨hdp, rfl, World.ownsRow_nil _ _ _ _, (Below.refl _ _).alloc (Nat.le_refl _) _, Nat.le_refl _⟩
  clear hp hn hz ht hdp
  go_enter Tryz.func58, Tryz.ntmps58
  go_wp2_with fail
  go_loopg [3, 11] ps.length (fun m vq i wr => ∃ j : Nat, ∃ q : List Sw, j ≤ ps.length ∧ m = ps.length - j ∧ i = .int .i64 j ∧ q.length ≤ j ∧ w.heap.size < wr.heap.size ∧ Hid (SLoop w wr ps j q vq))
  case atStart => exact ⟨0, [], by omega, rfl, rfl, by simp, by simp, unhide Hst⟩
  case round =>
    obtain ⟨j, q, hj, rfl, rfl, hq, hsz, Hl⟩ := hrel
    obtain ⟨aoq, capq, hvq⟩ := ownsRow_form (unhide Hl).own
    subst hvq
    by_cases hlt : j < ps.length
    · obtain ⟨pj, hpj⟩ : ∃ pj, ps[j]? = some pj := ⟨ps[j], List.getElem?_eq_getElem hlt⟩
      obtain ⟨g2, _, e1, hg2, hg2'⟩ := ownsRow_some (unhide Hp) (by omega)
      simp only [Value.slice.injEq, true_and] at e1
      obtain ⟨rfl, rfl⟩ := e1
      have hc := pair_get (fun p : Pt => Value.int .u8 p.1) (fun p => Value.int .i64 p.2) ps j pj hpj
      have hro := ownsRow_below (unhide Hp) (unhide Hl).bel
      have d1 := ownsRow_cell hro (j := j * 2) hc.1
      have d2 := ownsRow_cell hro (j := j * 2 + 1) hc.2
      have Hnj := hide (unhide Hn pj (List.mem_of_getElem? hpj))
      have Hpj := hide hpj
      clear hro hc hpj
      obtain ⟨s, n⟩ := pj
      simp only at d1 d2 Hnj
      go_wp2_with fail
      refine (isOperand_any s n _).mono ?_
      rintro e w3 ⟨rfl, hb3⟩
      have f0 := hb3.cell (p := ⟨wr.heap.size, 0, none⟩) (by simp)
      have f1 := hb3.cell (p := ⟨wr.heap.size, 1, none⟩) (by simp)
      have hb3s := hb3.size
      simp at f0 f1 hb3s
      have Hb3 : Hid (Below w.heap.size w w3) := ((unhide Hl).bel.alloc (by omega) _).then' (by simp; omega) hb3
      have Hq3 := hide (ownsRow_below ((unhide Hl).own.alloc _) hb3)
      clear hb3
      cases ho : opdB s with
      | true =>
        have Hoo := hide ho
        go_wp2_with fail
        refine (word_any s n _ (unhide Hoo) (unhide Hnj).1 (unhide Hnj).2 ((unhide Ht).below (unhide Hb3))).mono ?_
        rintro e w4 ⟨u, rfl, hu, hb4⟩
        have Hus := hide (word_short (unhide Hnj).1 (unhide Hnj).2 hu)
        have Hb4 := hide ((unhide Hb3).then' (by omega) hb4)
        have Hq4 := hide (ownsRow_below (unhide Hq3) hb4)
        have hb4s := hb4.size
        have Hu := hide hu
        clear hb4 hu
        go_wp2_with (first
          | (at_builtin; refine wpList_append_own _ rfl (.tmp 19) (.tmp 23) 152 rfl w.heap.size 154 ii (.agg #[.string ⟨#[]⟩, .int .i64 0]) 2 24 Tryz.underlying152 hi hz0 hz1 hz2 rfl (by decide) (.slice aoq q.length capq) q.length _ rfl ((unhide Hq4).alloc _) ⟨w4.heap.size, 0, none⟩ 1 1 [.string u, .int .i64 3] rfl rfl (cell_two_new' _ _ (by simp) _ _ _) (fun x hx => by simp at hx; rcases hx with rfl | rfl <;> rfl) (by unfold maxLen; omega) (by omega) (by simp; omega) ?_; intro vq' w5 hown5 hgr5 _; obtain ⟨gf, cf, rfl, hgf, hgf'⟩ := ownsRow_some hown5 (Nat.succ_pos _)))
        have hb5 : Below w.heap.size w w5 := ((unhide Hb4).alloc (by omega) _).grown hgr5 (by simp; omega) (fun g hg => ((unhide Hq4).lt g hg).1)
        have Hl5 := hide ((unhide Hl).opnd (unhide Hpj) (unhide Hoo) (unhide Hu) (unhide Hus) hown5 hb5)
        have hsz5 := hgr5.size
        simp at hsz5
        clear hown5 hgr5 hb5
        go_wp2_with fail
        go_roundg (ps.length - (j + 1))
        case measure => omega
        case rel => exact ⟨j + 1, q ++ [(u, 3)], by omega, rfl, by go_num, by simp; omega, by omega, unhide Hl5⟩
      | false =>
        have Hoo := hide ho
        by_cases h126 : s = 126
        · subst h126
          have h1 := (unhide Hl).one (unhide Hpj) (unhide Hoo) rfl
          obtain ⟨qq, x, rfl⟩ := snoc1s q h1
          obtain ⟨ux, rx⟩ := x
          have hlen : (qq ++ [(ux, rx)]).length = qq.length + 1 := by simp
          simp only [hlen] at Hq3 hq Hl ⊢
          obtain ⟨gp, _, e1, hgp, hgp'⟩ := ownsRow_some (unhide Hq3) (by omega)
          simp only [Value.slice.injEq, true_and] at e1
          obtain ⟨rfl, rfl⟩ := e1
          have p1 := ownsRow_cell (unhide Hq3) (j := qq.length * 2) (u := .string ux) (by rw [cellsS_append, List.getElem?_append_right (by rw [cellsS_length]; omega), cellsS_length]; simp [cellsS])
          have p2 := ownsRow_cell (unhide Hq3) (j := qq.length * 2 + 1) (u := .int .i64 rx) (by rw [cellsS_append, List.getElem?_append_right (by rw [cellsS_length]; omega), cellsS_length]; simp [cellsS])
          have hux := (unhide Hl).sz
          rw [szs_snoc] at hux
          simp only at hux
          clear hlen h1
          go_wp2_with fail
          refine (showOpposite_any ux rx _ (by omega)).mono ?_
          rintro e w4 ⟨u, rfl, hu, hb4⟩
          have Hq4 := hide (ownsRow_below (unhide Hq3) hb4)
          have Hb4 := hide ((unhide Hb3).then' (by omega) hb4)
          have hb4s := hb4.size
          have z0 := ownsRow_frozen (unhide Hq4) (qq.length * 2)
          have z1 := ownsRow_frozen (unhide Hq4) (qq.length * 2 + 1)
          have hown5 := own_last (unhide Hq4) u 3
          have Hl5 := hide ((unhide Hl).neg (unhide Hpj) (unhide Hoo) rfl hu hown5 (((unhide Hb4).setCell (by show w.heap.size ≤ gp; exact hgp) _).setCell (by show w.heap.size ≤ gp; exact hgp) _))
          have r1 := ownsRow_cell (unhide Hq4) (j := qq.length * 2) (u := .string ux) (by rw [cellsS_append, List.getElem?_append_right (by rw [cellsS_length]; omega), cellsS_length]; simp [cellsS])
          have r2 := ownsRow_cell (unhide Hq4) (j := qq.length * 2 + 1) (u := .int .i64 rx) (by rw [cellsS_append, List.getElem?_append_right (by rw [cellsS_length]; omega), cellsS_length]; simp [cellsS])
          clear hb4 hu p1 p2 hown5
          go_wp2_with fail
          go_roundg (ps.length - (j + 1))
          case measure => omega
          case rel => exact ⟨j + 1, qq ++ [(u, 3)], by omega, rfl, by go_num, by simp; omega, by simp [World.setCell]; omega, unhide Hl5⟩
        · have n126 : (s == 126) = false := by simpa using h126
          have h2 := (unhide Hl).two (unhide Hpj) (unhide Hoo) h126
          obtain ⟨qq, x, y, rfl⟩ := snoc2s q h2.2
          obtain ⟨ux, rx⟩ := x
          obtain ⟨uy, ry⟩ := y
          have Hop := hide h2.1
          obtain ⟨c, hcu⟩ : ∃ c : UInt8, u8 s = c := ⟨_, rfl⟩
          have hs8 := opB_u8 h2.1
          rw [hcu] at hs8
          subst hs8
          have Hcu := hide hcu
          clear h126 h2 hcu
          have hlen : (qq ++ [(ux, rx), (uy, ry)]).length = qq.length + 2 := by simp
          simp only [hlen] at Hq3 hq Hl ⊢
          obtain ⟨gp, _, e1, hgp, hgp'⟩ := ownsRow_some (unhide Hq3) (by omega)
          simp only [Value.slice.injEq, true_and] at e1
          obtain ⟨rfl, rfl⟩ := e1
          have hux := (unhide Hl).sz
          rw [szs_snoc2] at hux
          simp only at hux
          have hcc : ∀ (k : Nat) (v : Value), [Value.string ux, .int .i64 rx, .string uy, .int .i64 ry][k]? = some v → (cellsS (qq ++ [(ux, rx), (uy, ry)]))[qq.length * 2 + k]? = some v := by
            intro k v hk
            rw [cellsS_append, List.getElem?_append_right (by rw [cellsS_length]; omega), cellsS_length, show qq.length * 2 + k - qq.length * 2 = k by omega]
            exact hk
          have p1 := ownsRow_cell (unhide Hq3) (j := qq.length * 2) (u := .string ux) (hcc 0 _ rfl)
          have p2 := ownsRow_cell (unhide Hq3) (j := qq.length * 2 + 1) (u := .int .i64 rx) (hcc 1 _ rfl)
          have p3 := ownsRow_cell (unhide Hq3) (j := (qq.length + 1) * 2) (u := .string uy) (by rw [show (qq.length + 1) * 2 = qq.length * 2 + 2 by omega]; exact hcc 2 _ rfl)
          have p4 := ownsRow_cell (unhide Hq3) (j := (qq.length + 1) * 2 + 1) (u := .int .i64 ry) (by rw [show (qq.length + 1) * 2 + 1 = qq.length * 2 + 3 by omega]; exact hcc 3 _ rfl)
          have e2 : (qq.length : Int) + 2 - 1 = (qq.length : Int) + 1 := by omega
          have wq0 : IntKind.i64.wrap (qq.length : Int) = qq.length := by rw [IntKind.wrap_i64]; omega
          have wq1 : IntKind.i64.wrap ((qq.length : Int) + 1) = (qq.length : Int) + 1 := by rw [IntKind.wrap_i64]; omega
          have tq1 : ((qq.length : Int) + 1).toNat = qq.length + 1 := by omega
          have lq1 : (0 : Int) ≤ (qq.length : Int) + 1 := by omega
          have lq0 : (0 : Int) ≤ (qq.length : Int) := by omega
          have lq3 : (qq.length : Int) < (qq.length : Int) + 2 := by omega
          have e3 : (qq.length : Int) + 2 - 2 = (qq.length : Int) := by omega
          have tq0 : (qq.length : Int).toNat = qq.length := by omega
          have lq2 : (qq.length : Int) + 1 < (qq.length : Int) + 2 := by omega
          have Hcc := hide hcc
          have hlt1 : wr.heap.size < w3.heap.size := by omega
          have hlt2 : gp < w3.heap.size := by omega
          have hne1 : w3.heap.size ≠ wr.heap.size := by omega
          have hne2 : w3.heap.size ≠ gp := by omega
          clear hlen hcc
          go_upto_region 11 with fail
          have HC := hide (fun (w4 : World) (u : ByteArray) => cutA (w3 := w3) (w4 := w4) (u := u) (k := rkS (c.toNat : Int)))
          have HD := hide (fun (w4 : World) (u : ByteArray) => cutB (w3 := w3) (w4 := w4) (u := u) (k := rkS (c.toNat : Int)))
          go_cut [7] (fun vj wx => ∃ u : ByteArray, ∃ g : Nat, vj = .pointer (some ⟨g, 0, none⟩) ∧ L u = brk (L ux, rx) (rkS (c.toNat : Int)) ++ c :: brk (L uy, ry) (rkS (c.toNat : Int) + 1) ∧ CutR w3 wx g u (rkS (c.toNat : Int)))
          case first =>
            have hcall := fun wx => showOperation_any c ux uy rx ry wx (by omega) (by omega)
            clear hux hq Hp Hn Hz Ht Hst Hl Hq3 Hb3 Hcc Hop Hcu Hoo Hpj Hnj d1 d2
            go_region_held3 (fun w' => w'.cell? ⟨wr.heap.size, 0, none⟩ = some (.int .u8 (c.toNat : Int)) ∧ w'.cell? ⟨gp, qq.length * 2, none⟩ = some (.string ux) ∧ w'.cell? ⟨gp, qq.length * 2 + 1, none⟩ = some (.int .i64 rx) ∧ w'.cell? ⟨gp, (qq.length + 1) * 2, none⟩ = some (.string uy) ∧ w'.cell? ⟨gp, (qq.length + 1) * 2 + 1, none⟩ = some (.int .i64 ry)) (first | go_keep | exact ⟨kept_cell hb4 (by simp [*]), kept_cell hb4 (by simp [*]), kept_cell hb4 (by simp [*]), kept_cell hb4 (by simp [*]), kept_cell hb4 (by simp [*])⟩ | exact ⟨kept_alloc hb4 (by simp [*]), kept_alloc hb4 (by simp [*]), kept_alloc hb4 (by simp [*]), kept_alloc hb4 (by simp [*]), kept_alloc hb4 (by simp [*])⟩) (first | (go_at_call 78; refine (hcall _).mono ?_; rintro e w4 ⟨u, rfl, hu, hb4⟩; have k0 := fun h => hb4.cell (p := ⟨w3.heap.size, 0, none⟩) h; have k1 := fun h => hb4.cell (p := ⟨w3.heap.size, 1, none⟩) h; have y0 := fun h => hb4.frozen (p := ⟨w3.heap.size, 0, none⟩) h; have y1 := fun h => hb4.frozen (p := ⟨w3.heap.size, 1, none⟩) h; simp at k0 k1 y0 y1))
            all_goals (try go_wp2_with fail)
            all_goals go_meet
            all_goals first
              | exact ⟨u, w3.heap.size, rfl, hu, unhide HC w4 u hb4⟩
              | exact ⟨u, w4.heap.size, rfl, hu, unhide HD w4 u hb4⟩
          case rest =>
            obtain ⟨u, g, rfl, hu, hr⟩ := hcut
            have Hb5 := hide ((unhide Hb3).then' (by omega) hr.bel)
            have Hq5 := hide (ownsRow_below (unhide Hq3) hr.bel)
            have c0 := hr.blk.cell 0
            have c1 := hr.blk.cell 1
            simp only [List.getElem?_toArray, List.getElem?_cons_zero, List.getElem?_cons_succ] at c0 c1
            have hszc := hr.bel.size
            have hown5 := own_last (own_less (unhide Hq5)) u (rkS (c.toNat : Int))
            have Hl5 := hide ((unhide Hl).join (unhide Hpj) (unhide Hop) (by rw [unhide Hcu]; exact hu) hown5 (((unhide Hb5).setCell (by show w.heap.size ≤ gp; exact hgp) _).setCell (by show w.heap.size ≤ gp; exact hgp) _))
            have z0 := ownsRow_frozen (unhide Hq5) (qq.length * 2)
            have z1 := ownsRow_frozen (unhide Hq5) (qq.length * 2 + 1)
            have r1 := ownsRow_cell (unhide Hq5) (j := qq.length * 2) (u := .string ux) (unhide Hcc 0 _ rfl)
            have r2 := ownsRow_cell (unhide Hq5) (j := qq.length * 2 + 1) (u := .int .i64 rx) (unhide Hcc 1 _ rfl)
            have hcap : qq.length + 1 ≤ capq := by
              rcases (unhide Hq3).2 with ⟨h0, _⟩ | ⟨g', cap', cur, hv, _, _, hn, _⟩
              · cases h0
              · cases hv; omega
            clear hu hr hown5 p1 p2 p3 p4 f0 f1
            go_wp2_with fail
            go_roundg (ps.length - (j + 1))
            case measure => omega
            case rel => exact ⟨j + 1, qq ++ [(u, rkS (c.toNat : Int))], by omega, rfl, by go_num, by simp; omega, by simp [World.setCell]; omega, unhide Hl5⟩
    · obtain ⟨x, rfl, hx⟩ := (unhide Hl).done (by omega) (unhide Hz)
      obtain ⟨g, _, e1, hg, hg'⟩ := ownsRow_some (unhide Hl).own (by simp)
      simp only [Value.slice.injEq, true_and] at e1
      obtain ⟨rfl, rfl⟩ := e1
      have c0 := ownsRow_cell (unhide Hl).own (j := 0) rfl
      have hsx := (unhide Hl).sz
      have Hx := hide hx
      simp [szs] at hsx
      clear hx
      go_wp2_with fail
      go_ret
      exact ⟨x.1, rfl, unhide Hx, by omega, (unhide Hl).bel⟩

end Go.Proofs.YtdchbenfccofpabGreatDoor
namespace Go.Proofs.YtdchbenfccofpabGreatDoor
open Go.RowKit Db

def perT (p : List UInt8 × List UInt8) : List UInt8 := Lib.decDigits (val p.1).toNat ++ 45 :: Lib.decDigits (val p.2).toNat
def rowT (ps : List Pt) : List UInt8 := match sEval ps [] with | x :: _ => x.1 | [] => []
theorem rowT_of {ps : List Pt} {x : Pc} (h : ShowR ps x) : rowT ps = x.1 := by
  have := h [] []
  rw [List.append_nil] at this
  unfold rowT
  rw [this]
  simp [sEval]
def shT (pd : List (List UInt8 × List UInt8)) (pss : List (List Pt)) : List UInt8 := jn 44 (pd.map perT) ++ 124 :: jn 59 (pss.map rowT)
theorem outc_small {pd : List (Int × Int)} {pss : List (List Pt)} {er pl : Int} (h : outc pd pss = (er, pl)) (h0 : er = 0) : pd.length ≤ 4 ∧ pss.length ≤ 8 ∧ pl = 0 := by
  subst h0
  unfold outc at h
  split at h
  · simp at h
  · split at h
    · simp at h
    · split at h
      · simp at h
      · split at h
        · simp at h
        · simp at h; omega
theorem splitGo_ne (c : UInt8) (l : List UInt8) : ∀ acc cur, splitGo c acc cur l ≠ [] := by
  induction l with
  | nil => intro acc cur; simp [splitGo]
  | cons x r ih => intro acc cur; unfold splitGo; split <;> exact ih _ _
theorem split_ne (l : List UInt8) (c : UInt8) : split l c ≠ [] := splitGo_ne c l _ _
theorem day_range {d : List UInt8} (h : dayS d) : 0 ≤ val d ∧ val d ≤ 999 := by
  have h1 := val_pos d h.2.2
  have h2 := val_lt d h.2.2
  have h3 : (10 : Int) ^ d.length ≤ 10 ^ 3 := by
    have : d.length = 1 ∨ d.length = 2 ∨ d.length = 3 := by have := h.1; have := h.2.1; omega
    rcases this with h | h | h <;> rw [h] <;> decide
  have : (10 : Int) ^ 3 = 1000 := by decide
  omega
theorem decDigits_small (n : Nat) (h : n ≤ 999) : (Lib.decDigits n).length ≤ 3 := by
  unfold Lib.decDigits
  split
  · simp
  · rw [List.length_append]
    unfold Lib.decDigits
    split
    · simp
    · rw [List.length_append]
      unfold Lib.decDigits
      rw [dif_pos (by omega)]
      simp
theorem perT_small {p : List UInt8 × List UInt8} (h1 : dayS p.1) (h2 : dayS p.2) : (perT p).length ≤ 7 := by
  have a := day_range h1
  have b := day_range h2
  have c := decDigits_small (val p.1).toNat (by omega)
  have d := decDigits_small (val p.2).toNat (by omega)
  unfold perT
  rw [List.length_append, List.length_cons]
  omega

theorem opnd_num {e : List UInt8} {ps : List Pt} (h : Opnd e ps) : ∀ p ∈ ps, -9223372036854775808 ≤ p.2 ∧ p.2 ≤ 9223372036854775807 := by
  have key : ∀ d : List UInt8, d.length ≤ 18 → (∀ c ∈ d, digB c.toNat = true) → -9223372036854775808 ≤ val d ∧ val d ≤ 9223372036854775807 := by
    intro d hd hc
    have h1 := val_pos d hc
    have h2 := val_lt d hc
    have h3 : (10 : Int) ^ d.length ≤ 10 ^ 18 := by
      have : (10 : Nat) ^ d.length ≤ 10 ^ 18 := Nat.pow_le_pow_right (by omega) hd
      exact_mod_cast this
    have : (10 : Int) ^ 18 = 1000000000000000000 := by decide
    omega
  rcases h with ⟨_, hl, hd, rfl⟩ | ⟨c, ds, rfl, _, hd, hk, rfl⟩
  · intro p hp
    simp only [List.mem_singleton] at hp
    subst hp
    exact key e hl hd
  · intro p hp
    simp only [List.mem_singleton] at hp
    subst hp
    exact key ds (by rcases hk with h | h <;> omega) hd
theorem wf_num {n : Nat} : ∀ {e : List UInt8} {ps : List Pt}, Wf n e ps → ∀ p ∈ ps, -9223372036854775808 ≤ p.2 ∧ p.2 ≤ 9223372036854775807 := by
  induction n with
  | zero => intro e ps h; exact absurd h (by simp [Wf])
  | succ n ih =>
    intro e ps h
    rcases h with ⟨_, h⟩ | ⟨_, h⟩ | ⟨_, p, h, rfl⟩ | ⟨_, p, q, h, k, rfl⟩
    · exact opnd_num h
    · exact ih h
    · intro x hx
      rcases List.mem_append.1 hx with hx | hx
      · exact ih h x hx
      · simp only [List.mem_singleton] at hx
        subst hx
        exact ⟨by simp, by simp⟩
    · intro x hx
      rcases List.mem_append.1 hx with hx | hx
      · rcases List.mem_append.1 hx with hx | hx
        · exact ih h x hx
        · exact ih k x hx
      · simp only [List.mem_singleton] at hx
        subst hx
        exact ⟨by simp, by simp⟩

end Go.Proofs.YtdchbenfccofpabGreatDoor
namespace Go.Proofs.YtdchbenfccofpabGreatDoor
open Go.RowKit Db

/-- One period more. -/
theorem per_step {pd : List (List UInt8 × List UInt8)} {j : Nat} {p : List UInt8 × List UInt8} (hp : pd[j]? = some p) {u t : List UInt8} (h : u = jn 44 ((pd.map perT).take j)) (h0 : 0 ≤ val p.1) (h1 : 0 ≤ val p.2) (ht : t = Lib.itoa (val p.1) ++ 45 :: Lib.itoa (val p.2)) :
    (j = 0 → u ++ t = jn 44 ((pd.map perT).take (j + 1))) ∧ (0 < j → u ++ [44] ++ t = jn 44 ((pd.map perT).take (j + 1))) := by
  have hm : (pd.map perT)[j]? = some t := by
    rw [List.getElem?_map, hp, ht, itoa_pos h0, itoa_pos h1]; rfl
  constructor
  · rintro rfl
    rw [jn_one hm, h]; rfl
  · intro hj
    rw [jn_more hj hm, h]; simp
theorem row_step {pss : List (List Pt)} {j : Nat} {p : List Pt} (hp : pss[j]? = some p) {x : Pc} (hx : ShowR p x) {a u : List UInt8} (h : u = a ++ jn 59 ((pss.map rowT).take j)) :
    (j = 0 → u ++ x.1 = a ++ jn 59 ((pss.map rowT).take (j + 1))) ∧ (0 < j → u ++ [59] ++ x.1 = a ++ jn 59 ((pss.map rowT).take (j + 1))) := by
  have hm : (pss.map rowT)[j]? = some x.1 := by
    rw [List.getElem?_map, hp, ← rowT_of hx]; rfl
  constructor
  · rintro rfl
    rw [jn_one hm, h]; simp [jn]
  · intro hj
    rw [jn_more hj hm, h]; simp

set_option maxRecDepth 100000 in
set_option maxHeartbeats 4000000 in
theorem repShow_any (vp vr : Value) (pd : List (List UInt8 × List UInt8)) (vs : List Value) (pss : List (List Pt)) (B : Nat) (w : World) (hp : w.ownsRow B 114 2 vp pd.length (cellsD pd)) (hr : RowsAt w B vr vs pss)
    (hd : ∀ p ∈ pd, dayS p.1 ∧ dayS p.2) (hrow : ∀ (i : Nat) ps, pss[i]? = some ps → ∃ n e, Wf n e ps) (hpl : pd.length ≤ 4) (hvl : vs.length ≤ 8) (ht : Tab w) :
    Calls Tryz.prog 35 #[.agg #[vp, vr]] w fun e w' => ∃ u : ByteArray, e = .returned (.string u) ∧ L u = shT pd pss ∧ Below w.heap.size w w' := by
  obtain ⟨aop, capp, rfl⟩ := ownsRow_form hp
  obtain ⟨aor, capr, rfl⟩ := ownsRow_form hr.own
  have Hlen := hide hr.len
  have Hp := hide hp
  have Hr := hide hr
  have Hd := hide hd
  have Hrow := hide hrow
  have Ht := hide ht
  clear hp hr hd hrow ht
  go_enter Tryz.func35, Tryz.ntmps35
  go_wp2_with fail
  obtain ⟨W, hW⟩ : ∃ W, w.alloc (.cells #[.slice aop pd.length capp, .slice aor vs.length capr] 69) = W := ⟨_, rfl⟩
  rw [hW]
  have hWs : W.heap.size = w.heap.size + 1 := by rw [← hW]; simp
  have HB : Hid (Blk W w.heap.size #[.slice aop pd.length capp, .slice aor vs.length capr] 69) := by rw [← hW]; exact Blk.new _ _ _
  have Hw : Hid (Below w.heap.size w W) := by rw [← hW]; exact (Below.refl _ _).alloc (Nat.le_refl _) _
  have Hp1 := hide (ownsRow_below (unhide Hp) (unhide Hw))
  have Hr1 := hide ((unhide Hr).kept (unhide Hw))
  have Ht1 := hide ((unhide Ht).below (unhide Hw))
  clear Hp Hr Ht hW
  go_loopg [3, 11] pd.length (fun m vt i wr => ∃ j : Nat, ∃ u : ByteArray, j ≤ pd.length ∧ m = pd.length - j ∧ i = .int .i64 j ∧ vt = .string u ∧ u.size ≤ 50 * j ∧ Hid (L u = jn 44 ((pd.map perT).take j)) ∧ Hid (Below W.heap.size W wr))
  case atStart => exact ⟨0, ⟨#[]⟩, by omega, rfl, rfl, rfl, Nat.le_refl 0, rfl, Below.refl _ _⟩
  case round =>
    obtain ⟨j, u, hj, rfl, rfl, rfl, hus, Hu, Hb⟩ := hrel
    have hsz := (unhide Hb).size
    by_cases hlt : j < pd.length
    · obtain ⟨pj, hpj⟩ : ∃ pj, pd[j]? = some pj := ⟨pd[j], List.getElem?_eq_getElem hlt⟩
      obtain ⟨g2, _, e1, hg2, hg2'⟩ := ownsRow_some (unhide Hp1) (by omega)
      simp only [Value.slice.injEq, true_and] at e1
      obtain ⟨rfl, rfl⟩ := e1
      have hc := pair_get (fun p : List UInt8 × List UInt8 => Value.int .i64 (val p.1)) (fun p => Value.int .i64 (val p.2)) pd j pj hpj
      have hro := ownsRow_below (unhide Hp1) (unhide Hb)
      have d1 := ownsRow_cell hro (j := j * 2) hc.1
      have d2 := ownsRow_cell hro (j := j * 2 + 1) hc.2
      obtain ⟨p1, p2⟩ := pj
      have hdj := unhide Hd _ (List.mem_of_getElem? hpj)
      have hr1 := day_range hdj.1
      have hr2 := day_range hdj.2
      have Hst := hide (fun (t : List UInt8) => per_step (t := t) hpj (unhide Hu) hr1.1 hr2.1)
      simp only at d1 d2 hr1 hr2
      obtain ⟨v1, hv1⟩ : ∃ v1, val p1 = v1 := ⟨_, rfl⟩
      obtain ⟨v2, hv2⟩ : ∃ v2, val p2 = v2 := ⟨_, rfl⟩
      simp only [hv1] at d1 hr1
      simp only [hv2] at d2 hr2
      have Hst2 : Hid (∀ t : List UInt8, t = Lib.itoa v1 ++ 45 :: Lib.itoa v2 → (j = 0 → L u ++ t = jn 44 ((pd.map perT).take (j + 1))) ∧ (0 < j → L u ++ [44] ++ t = jn 44 ((pd.map perT).take (j + 1)))) := by
        intro t ht; exact unhide Hst t (by rw [hv1, hv2]; exact ht)
      clear hro hc hpj hdj hv1 hv2 Hst
      by_cases hj0 : j = 0
      · subst hj0
        go_wp2_with fail
        refine (showPeriod_any v1 v2 _ hr1.1 (by omega) hr2.1 (by omega) ((unhide Ht1).below (by exact (unhide Hb).alloc hsz _))).mono ?_
        rintro e w4 ⟨t, rfl, ht, hb4⟩
        have htz : t.size ≤ 45 := by
          rw [size_L, ht, List.length_append, List.length_cons]
          have a1 := Lib.itoa_length_le v1 (by omega) (by omega)
          have a2 := Lib.itoa_length_le v2 (by omega) (by omega)
          omega
        have Hb4 : Hid (Below W.heap.size W w4) := ((unhide Hb).alloc hsz _).then' (by simp; omega) hb4
        have Hn := hide ((unhide Hst2 _ ht).1 (by simp))
        clear ht hb4
        go_wp2_with fail
        go_roundg (pd.length - (0 + 1))
        case measure => omega
        case rel => exact ⟨0 + 1, u ++ t, by omega, rfl, by go_num, rfl, by rw [ByteArray.size_append]; omega, by show _ = _; rw [L_append]; exact unhide Hn, unhide Hb4⟩
      · have hdd : decide ((0 : Int) < (j : Int)) = true := by simp; omega
        go_wp2_with fail
        refine (showPeriod_any v1 v2 _ hr1.1 (by omega) hr2.1 (by omega) ((unhide Ht1).below (by exact (unhide Hb).alloc hsz _))).mono ?_
        rintro e w4 ⟨t, rfl, ht, hb4⟩
        have htz : t.size ≤ 45 := by
          rw [size_L, ht, List.length_append, List.length_cons]
          have a1 := Lib.itoa_length_le v1 (by omega) (by omega)
          have a2 := Lib.itoa_length_le v2 (by omega) (by omega)
          omega
        have Hb4 : Hid (Below W.heap.size W w4) := ((unhide Hb).alloc hsz _).then' (by simp; omega) hb4
        have Hn := hide ((unhide Hst2 _ ht).2 (by omega))
        clear ht hb4
        go_wp2_with fail
        go_roundg (pd.length - (j + 1))
        case measure => omega
        case rel => exact ⟨j + 1, u ++ ⟨#[44]⟩ ++ t, by omega, rfl, by go_num, rfl, by rw [ByteArray.size_append, ByteArray.size_append]; show u.size + 1 + t.size ≤ _; omega, by show _ = _; rw [L_append, L_append]; exact unhide Hn, unhide Hb4⟩
    · obtain rfl : j = pd.length := by omega
      have HB5 := hide ((unhide HB).kept (unhide Hb))
      have c1 := (unhide HB5).cell 1
      simp only [List.getElem?_toArray, List.getElem?_cons_zero, List.getElem?_cons_succ] at c1
      have hus2 : u.size ≤ 200 := by omega
      have Hu0 : Hid (L u = jn 44 (pd.map perT)) := by
        show _ = _
        rw [unhide Hu, List.take_of_length_le (by simp)]
      obtain ⟨W2, hw2⟩ : ∃ W2, W2 = wr := ⟨_, rfl⟩
      subst hw2
      have Hr5 := hide ((unhide Hr1).kept (unhide Hb))
      have Ht5 := hide ((unhide Ht1).below (unhide Hb))
      clear Hu HB HB5 Hr1 Ht1 Hp1
      go_wp2_with fail
      go_loopg [3, 30] vs.length (fun m vt i wx => ∃ j : Nat, ∃ t : ByteArray, j ≤ vs.length ∧ m = vs.length - j ∧ i = .int .i64 j ∧ vt = .string t ∧ t.size ≤ 5100 * j + 300 ∧ Hid (L t = (L u ++ [124]) ++ jn 59 ((pss.map rowT).take j)) ∧ Hid (Below W2.heap.size W2 wx))
      case atStart => exact ⟨0, u ++ ⟨#[124]⟩, by omega, rfl, rfl, rfl, by rw [ByteArray.size_append]; show u.size + 1 ≤ _; omega, by show _ = _; rw [L_append]; simp [jn, L], Below.refl _ _⟩
      case round =>
        obtain ⟨j, t, hj, rfl, rfl, rfl, hts, Htx, Hb6⟩ := hrel
        have hsz6 := (unhide Hb6).size
        by_cases hlt : j < vs.length
        · obtain ⟨vj, hvj⟩ : ∃ vj, vs[j]? = some vj := ⟨vs[j], List.getElem?_eq_getElem hlt⟩
          obtain ⟨pj, hpj⟩ : ∃ pj, pss[j]? = some pj := ⟨pss[j]'(by rw [← unhide Hlen]; exact hlt), List.getElem?_eq_getElem _⟩
          have hrj := (unhide Hr5).row j vj pj hvj hpj
          obtain ⟨aoj, capj, rfl⟩ := ownsRow_form hrj
          obtain ⟨g2, _, e1, hg2, hg2'⟩ := ownsRow_some (unhide Hr5).own (by omega)
          simp only [Value.slice.injEq, true_and] at e1
          obtain ⟨rfl, rfl⟩ := e1
          have d1 := ownsRow_cell (ownsRow_below (unhide Hr5).own (unhide Hb6)) (j := j) hvj
          obtain ⟨nf, ef, hwf⟩ := unhide Hrow j pj hpj
          have Hdp : Hid (dpt pj 0 = some 1) := by
            have := wf_dpt hwf [] 0
            rw [List.append_nil] at this
            exact this
          obtain ⟨x, hx⟩ := wf_show hwf
          have Hx := hide hx
          have Hnum := hide (wf_num hwf)
          have Hbd := hide ((unhide Hr5).bd pj (List.mem_of_getElem? hpj))
          have Hrj := hide (ownsRow_below hrj (unhide Hb6))
          have Hst := hide (row_step hpj hx (unhide Htx))
          clear hrj hvj hpj hwf hx
          by_cases hj0 : j = 0
          · subst hj0
            go_wp2_with fail
            refine (showRow_any _ pj 0 _ (by exact (ownsRow_base (unhide Hrj) (fun _ _ => Nat.zero_le _)).alloc _) (unhide Hnum) (unhide Hdp) x (unhide Hx) (unhide Hbd) ((unhide Ht5).below (by exact (unhide Hb6).alloc hsz6 _))).mono ?_
            rintro e w7 ⟨y, rfl, hy, hyz, hb7⟩
            have Hb7 : Hid (Below W2.heap.size W2 w7) := ((unhide Hb6).alloc hsz6 _).then' (by simp; omega) hb7
            have Hn := hide ((unhide Hst).1 (by simp))
            have Hy := hide hy
            clear hy hb7
            go_wp2_with fail
            go_roundg (vs.length - (0 + 1))
            case measure => omega
            case rel => exact ⟨0 + 1, t ++ y, by omega, rfl, by go_num, rfl, by rw [ByteArray.size_append]; omega, by show _ = _; rw [L_append, unhide Hy]; exact unhide Hn, unhide Hb7⟩
          · have hdd : decide ((0 : Int) < (j : Int)) = true := by simp; omega
            go_wp2_with fail
            refine (showRow_any _ pj 0 _ (by exact (ownsRow_base (unhide Hrj) (fun _ _ => Nat.zero_le _)).alloc _) (unhide Hnum) (unhide Hdp) x (unhide Hx) (unhide Hbd) ((unhide Ht5).below (by exact (unhide Hb6).alloc hsz6 _))).mono ?_
            rintro e w7 ⟨y, rfl, hy, hyz, hb7⟩
            have Hb7 : Hid (Below W2.heap.size W2 w7) := ((unhide Hb6).alloc hsz6 _).then' (by simp; omega) hb7
            have Hn := hide ((unhide Hst).2 (by omega))
            have Hy := hide hy
            clear hy hb7
            go_wp2_with fail
            go_roundg (vs.length - (j + 1))
            case measure => omega
            case rel => exact ⟨j + 1, t ++ ⟨#[59]⟩ ++ y, by omega, rfl, by go_num, rfl, by rw [ByteArray.size_append, ByteArray.size_append]; show t.size + 1 + y.size ≤ _; omega, by show _ = _; rw [L_append, L_append, unhide Hy]; exact unhide Hn, unhide Hb7⟩
        · obtain rfl : j = vs.length := by omega
          go_wp2_with fail
          go_ret
          refine ⟨t, rfl, ?_, ?_⟩
          · rw [unhide Htx, unhide Hu0, List.take_of_length_le (by rw [List.length_map, ← unhide Hlen]; exact Nat.le_refl _)]
            unfold shT
            simp
          · exact (unhide Hw).then' (by omega) ((unhide Hb).then' (by omega) (unhide Hb6))

end Go.Proofs.YtdchbenfccofpabGreatDoor
namespace Go.Proofs.YtdchbenfccofpabGreatDoor
open Go.RowKit Db

set_option maxRecDepth 100000 in
set_option maxHeartbeats 4000000 in
theorem wrongKind_any (vr : Value) (vs : List Value) (pss : List (List Pt)) (B : Nat) (w : World) (h : RowsAt w B vr vs pss) (hrow : ∀ (i : Nat) ps, pss[i]? = some ps → (∃ n e, Wf n e ps) ∧ ∀ p ∈ ps, 0 ≤ p.2) (hbn : badN 0 pss < 0) (hvl : vs.length ≤ 200) :
    Calls Tryz.prog 56 #[vr] w fun e w' => e = .returned (.int .i64 (orLen (badK 0 [] pss) pss.length)) ∧ Below w.heap.size w w' := by
  obtain ⟨ii, hi, hz0, hz1, hz2⟩ := info_parts info_kind
  have Hlen := hide h.len
  obtain ⟨ao, cap, rfl⟩ := ownsRow_form h.own
  have H := hide h
  have Hrow := hide hrow
  have Hbn := hide hbn
  clear h hrow hbn
  go_enter Tryz.func56, Tryz.ntmps56
  go_wp2_with fail
  go_loopw [3, 10] (fun vk i wr => ∃ k : Nat, ∃ ks : List Int, k ≤ vs.length ∧ i = .int .i64 k ∧ ks.length = k ∧ Hid (∀ x ∈ ks, x = 0 ∨ x = 1) ∧ Hid (badK k (ks.map toR) (pss.drop k) = badK 0 [] pss) ∧
      Hid (wr.ownsRow w.heap.size 149 1 vk ks.length (ks.map (.int .i64))) ∧ Hid (Below w.heap.size w wr)) (fun _ i _ => vs.length - (intOf i).toNat)
  case atStart => exact ⟨0, [], by omega, rfl, rfl, by simp [Hid], rfl, World.ownsRow_nil _ _ _ _, Below.refl _ _⟩
  case round =>
    obtain ⟨k, ks, hk, rfl, hkl, Hkb, Hp, Ho, Hb⟩ := hrel
    obtain ⟨aok, capk, hvk⟩ := ownsRow_form (unhide Ho)
    subst hvk
    subst hkl
    have hsz := (unhide Hb).size
    by_cases hlt : ks.length < vs.length
    · obtain ⟨vk, hvk⟩ : ∃ vk, vs[ks.length]? = some vk := ⟨vs[ks.length], List.getElem?_eq_getElem hlt⟩
      obtain ⟨pk, hpk⟩ : ∃ pk, pss[ks.length]? = some pk := ⟨pss[ks.length]'(by rw [← unhide Hlen]; exact hlt), List.getElem?_eq_getElem _⟩
      have Hst := hide (badK_step (ks.map toR) hpk)
      have hrk := (unhide H).row ks.length vk pk hvk hpk
      obtain ⟨aop, capp, rfl⟩ := ownsRow_form hrk
      obtain ⟨g, _, e1, hg, hg'⟩ := ownsRow_some (unhide H).own (by omega)
      simp only [Value.slice.injEq, true_and] at e1
      obtain ⟨rfl, rfl⟩ := e1
      have c1 := ownsRow_cell (ownsRow_below (unhide H).own (unhide Hb)) (j := ks.length) hvk
      have Hrk := hide (ownsRow_below hrk (unhide Hb))
      have hro := unhide Hrow ks.length pk hpk
      obtain ⟨⟨nf, ef, hwf⟩, hpos⟩ := hro
      have hnm := badN_all pss 0 (by omega) (unhide Hbn) ks.length pk hpk
      rw [Int.zero_add] at hnm
      have Hnm : Hid (∀ p ∈ pk, oldB p.1 = true → 0 ≤ p.2 ∧ p.2.toNat < ks.length) := fun p hp ho => ⟨hpos p hp, nameB_lt hnm hpos ks.length rfl p hp ho⟩
      have Hdp : Hid (dpt pk 0 = some 1) := by
        have := wf_dpt hwf [] 0
        rw [List.append_nil] at this
        exact this
      have Hke : Hid (∃ kk, kEval (ks.map toR) pk [] = [kk]) := by
        obtain ⟨kk, hkk⟩ := wf_kind (ks.map toR) hwf
        refine ⟨kk, ?_⟩
        have := hkk [] []
        rw [List.append_nil] at this
        exact this
      have Hbd := hide ((unhide H).bd pk (List.mem_of_getElem? hpk))
      clear hrk hvk hpk hwf hpos hnm
      go_wp2_with fail
      refine (rowKind_any _ _ pk ks 0 _ (by exact (ownsRow_base (unhide Hrk) (fun _ _ => Nat.zero_le _)).alloc _) (by exact (ownsRow_base (unhide Ho) (fun _ _ => Nat.zero_le _)).alloc _) (unhide Hkb) (unhide Hnm) (unhide Hdp) (unhide Hke) (unhide Hbd)).mono ?_
      rintro e w3 ⟨kp, ok, rfl, hkp, hkind, hb3⟩
      have Hb3 : Hid (Below w.heap.size w w3) := ((unhide Hb).alloc hsz _).then' (by simp; omega) hb3
      have Ho3 := hide (ownsRow_below ((unhide Ho).alloc _) hb3)
      have hs3 := hb3.size
      simp at hs3
      have Hkp := hide hkp
      have Hkind := hide hkind
      clear hb3 hkp hkind
      cases ok with
      | false =>
        have Hv : Hid (badK 0 [] pss = ks.length) := by
          show _ = _
          rw [← unhide Hp, unhide Hst, unhide Hkind]; rfl
        go_wp2_with fail
        go_ret
        exact ⟨retI (by rw [unhide Hv, orLen_pos (by omega)]), unhide Hb3⟩
      | true =>
        have Hst2 : Hid (badK ks.length (ks.map toR) (pss.drop ks.length) = badK ((ks.length + 1 : Nat) : Int) ((ks ++ [kp]).map toR) (pss.drop (ks.length + 1))) := by
          show _ = _
          rw [unhide Hst, unhide Hkind]
          have : (toR kp == 0) = false := by rcases unhide Hkp with h | h <;> subst h <;> rfl
          simp [this]
        go_wp2_with (first
          | (at_builtin; refine wpList_append_own _ rfl (.tmp 24) (.tmp 26) 148 rfl w.heap.size 149 ii (.int .i64 0) 1 8 Tryz.underlying148 hi hz0 hz1 hz2 rfl (by decide) (.slice aok ks.length capk) ks.length _ rfl ((unhide Ho3).alloc _) ⟨w3.heap.size, 0, none⟩ 1 1 [.int .i64 kp] rfl rfl (cell_one_new _ _ _) (fun x hx => by simp at hx; subst hx; rfl) (by unfold maxLen; omega) (by omega) (by simp; omega) ?_; intro vq' w5 hown5 hgr5 _))
        have hb5 : Below w.heap.size w w5 := ((unhide Hb3).alloc (by omega) _).grown hgr5 (by simp; omega) (fun g hg => ((unhide Ho3).lt g hg).1)
        have Hown5 := hide hown5
        have Hb5 := hide hb5
        clear hown5 hgr5 hb5
        go_wp2_with fail
        go_roundw
        case rel =>
          refine ⟨ks.length + 1, ks ++ [kp], by omega, by go_num, by simp, ?_, by show _ = _; rw [← unhide Hp, unhide Hst2], ?_, unhide Hb5⟩
          · intro x hx
            simp at hx
            rcases hx with hx | rfl
            · exact unhide Hkb x hx
            · exact unhide Hkp
          · show World.ownsRow _ _ _ _ _ _ _
            simpa using unhide Hown5
        case measure => simp [intOf]; omega
    · have Hv : Hid (badK 0 [] pss = -1) := by
        show _ = _
        rw [← unhide Hp, List.drop_eq_nil_of_le (by rw [← unhide Hlen]; omega)]; rfl
      go_wp2_with fail
      go_ret
      exact ⟨retI (by rw [unhide Hv, orLen_neg (by omega), ← unhide Hlen]), unhide Hb⟩

end Go.Proofs.YtdchbenfccofpabGreatDoor
