/- Own texts of the theorem in YtdchbenfccofpaaGreatDoorWAlY, part 17. -/
import Derived.Test.YtdchbenfccofpaaGreatDoorJ16
import Derived.Test.YtdchbenfccofpaaGreatDoorJ02
import Derived.WalkSmall
import Derived.Deep.RegionHeld3
import Derived.Deep.DeepCutAuto
set_option maxRecDepth 100000
set_option maxHeartbeats 4000000
namespace Go.Proofs.YtdchbenfccofpaaGreatDoor
open Go.RowKit Db
theorem oLen {w : World} {base : Nat} {e : TypeId} {size : Nat} {v : Value} {n : Nat} {xs : List Value} (h : w.ownsRow base e size v n xs) : n ≤ maxLen := by
 rcases h.2 with ⟨_, rfl⟩ | ⟨g, cap, cur, _, _, _, h1, h2, _⟩
 ·exact Nat.zero_le _
 ·exact Nat.le_trans h1 h2
theorem pair_get {α : Type} (f g : α → Value) (l : List α) : ∀ (k : Nat) (a : α), l[k]? = some a → (l.flatMap fun x => [f x, g x])[k * 2]? = some (f a) ∧ (l.flatMap fun x => [f x, g x])[k * 2 + 1]? = some (g a) := by
 induction l with
 | nil => intro k a h; simp at h
 | cons x t ih =>
  intro k a h
  cases k with
  | zero => simp at h; subst h; simp
  | succ k =>
   have := ih k a (by simpa using h)
   simp only [List.flatMap_cons]
   rw [show (k + 1) * 2 = k * 2 + 1 + 1 by omega, show k * 2 + 1 + 1 + 1 = (k * 2 + 1) + 1 + 1 by omega]
   simpa using this
def orLen (i : Int) (n : Nat) : Int := if 0 ≤ i then i else n
theorem orLen_pos {i : Int} {n : Nat} (h : 0 ≤ i) : orLen i n = i := if_pos h
theorem orLen_neg {i : Int} {n : Nat} (h : ¬ 0 ≤ i) : orLen i n = n := if_neg h
theorem wrongPeriod_any (vp : Value) (pd : List (List UInt8 × List UInt8)) (B : Nat) (w : World) (h : w.ownsRow B 177 2 vp pd.length (cellsD pd)) :
   Calls Tryz.prog 93 #[vp] w fun e w' => e = .returned (.int .i64 (orLen (badP 0 (pdv pd)) pd.length)) ∧ Below w.heap.size w w' := by
 have hml := oLen h
 unfold maxLen at hml
 obtain ⟨ao, cap, rfl⟩ := oForm h
 have H := hI h
 clear h
 go_enter Tryz.func93, Tryz.ntmps93
 go_wp2_with fail
 go_loopw [7] (fun i wr => ∃ k : Nat, k ≤ pd.length ∧ i = .int .i64 k ∧ Hid (badP k ((pdv pd).drop k) = badP 0 (pdv pd)) ∧ Hid (Below w.heap.size w wr)) (fun i _ => pd.length - (intOf i).toNat)
 case atStart => exact ⟨0, by omega, rfl, rfl, Below.refl _ _⟩
 case round =>
   obtain ⟨k, hk, rfl, Hp, Hb⟩ := hrel
   by_cases hlt : k < pd.length
   · obtain ⟨pk, hpk⟩ : ∃ pk, pd[k]? = some pk := ⟨pd[k], List.getElem?_eq_getElem hlt⟩
     have hpv : (pdv pd)[k]? = some (val pk.1, val pk.2) := by simp [pdv, hpk]
     have Hst := hI (badP_step hpv)
     obtain ⟨g, _, e1, hg, hg'⟩ := oSome H.u (by omega)
     simp only [Value.slice.injEq, true_and] at e1
     obtain ⟨rfl, rfl⟩ := e1
     have hro := oFrm H.u (X := fun _ => False) Hb.u.frm (fun j hj => ⟨(H.u.lt j hj).2, fun h => h⟩)
     have hc := pair_get (fun p : List UInt8 × List UInt8 => Value.int .i64 (val p.1)) (fun p => Value.int .i64 (val p.2)) pd k pk hpk
     have c1 := oCell hro (j := k * 2) hc.1
     have c2 := oCell hro (j := k * 2 + 1) hc.2
     clear hro hc hpv hpk
     obtain ⟨x1, hx1⟩ : ∃ x1, val pk.1 = x1 := ⟨_, rfl⟩
     obtain ⟨x2, hx2⟩ : ∃ x2, val pk.2 = x2 := ⟨_, rfl⟩
     rw [hx1] at c1
     rw [hx2] at c2
     have Hst' : Hid (badP k ((pdv pd).drop k) = if x2 < x1 then (k : Int) else badP ((k + 1 : Nat) : Int) ((pdv pd).drop (k + 1))) := by show _ = _; rw [Hst.u, hx1, hx2]
     have hsz := Hb.u.size
     clear hx1 hx2 Hst
     by_cases hbad : x2 < x1
     · have Hv : Hid (badP 0 (pdv pd) = k) := by show _ = _; rw [← Hp.u, Hst'.u, if_pos hbad]
       go_wp2_with fail
       go_ret
       exact ⟨retI (by rw [Hv.u, orLen_pos (by omega)]), Hb.u.alloc hsz _⟩
     · have Hst2 : Hid (badP k ((pdv pd).drop k) = badP ((k + 1 : Nat) : Int) ((pdv pd).drop (k + 1))) := by show _ = _; rw [Hst'.u, if_neg hbad]
       go_wp2_with fail
       go_roundw
       case rel => exact ⟨k + 1, by omega, by go_num, by show _ = _; rw [← Hp.u, Hst2.u], Hb.u.alloc hsz _⟩
       case measure => simp [intOf]; omega
   · have Hv : Hid (badP 0 (pdv pd) = -1) := by
       show _ = _
       rw [← Hp.u, List.drop_eq_nil_of_le (by simp [pdv]; omega)]; rfl
     go_wp2_with fail
     go_ret
     exact ⟨retI (by rw [Hv.u, orLen_neg (by omega)]), Hb.u⟩
theorem namesRow_any (s n : Int) (w : World) :
  Calls Tryz.prog 129 #[.agg #[.int .u8 s, .int .i64 n]] w fun e w' => e = .returned (.bool (oldB s)) ∧ Below w.heap.size w w' := by
 by_cases h1 : (s == 36) = true
 all_goals
  have Hs : Hid (oldB s = ((s == 36) || (s == 60))) := rfl
  go_enter Tryz.func129, Tryz.ntmps129
  go_wp2_with fail
  go_ret
  exact ⟨by rw [Hs.u]; simp_all, (Below.refl _ _).alloc (Nat.le_refl _) _⟩
theorem nameB_step {row : Int} {ps : List Pt} {k : Nat} {p : Pt} (h : ps[k]? = some p) : nameB row (ps.drop k) = ((oldB p.1 && decide (row ≤ p.2)) || nameB row (ps.drop (k + 1))) := by
 obtain ⟨hi, rfl⟩ := List.getElem?_eq_some_iff.1 h
 rw [List.drop_eq_getElem_cons hi]; rfl
theorem wrongName_any (vr : Value) (vs : List Value) (pss : List (List Pt)) (B : Nat) (w : World) (h : RowsAt w B vr vs pss) :
   Calls Tryz.prog 94 #[vr] w fun e w' => e = .returned (.int .i64 (orLen (badN 0 pss) pss.length)) ∧ Below w.heap.size w w' := by
 have hml := oLen h.own
 have Hlen := hI h.len
 unfold maxLen at hml
 obtain ⟨ao, cap, rfl⟩ := oForm h.own
 have H := hI h
 clear h
 go_enter Tryz.func94, Tryz.ntmps94
 go_wp2_with fail
 go_loopw [9] (fun i wr => ∃ k : Nat, k ≤ vs.length ∧ i = .int .i64 k ∧ Hid (badN k (pss.drop k) = badN 0 pss) ∧ Hid (Below w.heap.size w wr)) (fun i _ => vs.length - (intOf i).toNat)
 case atStart => exact ⟨0, by omega, rfl, rfl, Below.refl _ _⟩
 case round =>
   obtain ⟨k, hk, rfl, Hp, Hb⟩ := hrel
   obtain ⟨wo, hwo⟩ : ∃ wo, wo = wr := ⟨_, rfl⟩
   subst hwo
   by_cases hlt : k < vs.length
   · obtain ⟨vk, hvk⟩ : ∃ vk, vs[k]? = some vk := ⟨vs[k], List.getElem?_eq_getElem hlt⟩
     obtain ⟨pk, hpk⟩ : ∃ pk, pss[k]? = some pk := ⟨pss[k]'(by rw [← Hlen.u]; exact hlt), List.getElem?_eq_getElem _⟩
     have Hst := hI (badN_step hpk)
     have hrk := H.u.row k vk pk hvk hpk
     have hpl := oLen hrk
     unfold maxLen at hpl
     obtain ⟨aok, capk, rfl⟩ := oForm hrk
     obtain ⟨g, _, e1, hg, hg'⟩ := oSome H.u.own (by omega)
     simp only [Value.slice.injEq, true_and] at e1
     obtain ⟨rfl, rfl⟩ := e1
     have c1 := oCell (oFrm H.u.own (X := fun _ => False) Hb.u.frm (fun j hj => ⟨(H.u.own.lt j hj).2, fun h => h⟩)) (j := k) hvk
     have Hrk := hI (oFrm hrk (X := fun _ => False) Hb.u.frm (fun j hj => ⟨(hrk.lt j hj).2, fun h => h⟩))
     have hsz := Hb.u.size
     clear hrk hvk hpk
     go_wp2_with fail
     go_loopw [17] (fun i w2 => ∃ j : Nat, j ≤ pk.length ∧ i = .int .i64 j ∧ Hid (nameB k (pk.drop j) = nameB k pk) ∧ Hid (Below wo.heap.size wo w2) ∧ wo.heap.size < w2.heap.size) (fun i _ => pk.length - (intOf i).toNat)
     case atStart => exact ⟨0, by omega, rfl, rfl, (Below.refl _ _).alloc (Nat.le_refl _) _, by simp⟩
     case round =>
       obtain ⟨j, hj, rfl, Hn, Hb2, hsz2⟩ := hrel
       by_cases hltj : j < pk.length
       · obtain ⟨pj, hpj⟩ : ∃ pj, pk[j]? = some pj := ⟨pk[j], List.getElem?_eq_getElem hltj⟩
         have Hns := hI (nameB_step (row := k) hpj)
         obtain ⟨g2, _, e1, hg2, hg2'⟩ := oSome Hrk.u (by omega)
         simp only [Value.slice.injEq, true_and] at e1
         obtain ⟨rfl, rfl⟩ := e1
         have hc := pair_get (fun p : Pt => Value.int .u8 p.1) (fun p => Value.int .i64 p.2) pk j pj hpj
         have hro := oBelow Hrk.u Hb2.u
         have d1 := oCell hro (j := j * 2) hc.1
         have d2 := oCell hro (j := j * 2 + 1) hc.2
         clear hro hc hpj
         obtain ⟨s, n⟩ := pj
         simp only at d1 d2 Hns
         go_wp2_with fail
         refine (namesRow_any s n _).mono ?_
         rintro e w3 ⟨rfl, hb3⟩
         have f1 := hb3.cell (p := ⟨wr.heap.size, 1, none⟩) (by simp)
         have hb3s := hb3.size
         simp at f1 hb3s
         have Hb3 : Hid (Below wo.heap.size wo w3) := (Hb2.u.alloc (by omega) _).then' (by simp; omega) hb3
         clear hb3
         cases ho : oldB s with
         | true =>
           by_cases hge : (k : Int) ≤ n
           · have Hv : Hid (badN 0 pss = k) := by
               show _ = _
               rw [← Hp.u, Hst.u, ← Hn.u, Hns.u, ho]
               simp [hge]
             go_wp2_with fail
             go_ret
             exact ⟨retI (by rw [Hv.u, orLen_pos (by omega)]), Hb.u.then' hsz Hb3.u⟩
           · have Hns2 : Hid (nameB k (pk.drop j) = nameB k (pk.drop (j + 1))) := by show _ = _; rw [Hns.u, ho]; simp; omega
             go_wp2_with fail
             go_roundw
             case rel => exact ⟨j + 1, by omega, by go_num, by show _ = _; rw [← Hn.u, Hns2.u], Hb3.u, by omega⟩
             case measure => simp [intOf]; omega
         | false =>
           have Hns2 : Hid (nameB k (pk.drop j) = nameB k (pk.drop (j + 1))) := by show _ = _; rw [Hns.u, ho]; simp
           go_wp2_with fail
           go_roundw
           case rel => exact ⟨j + 1, by omega, by go_num, by show _ = _; rw [← Hn.u, Hns2.u], Hb3.u, by omega⟩
           case measure => simp [intOf]; omega
       · have Hst2 : Hid (badN k (pss.drop k) = badN ((k + 1 : Nat) : Int) (pss.drop (k + 1))) := by
           show _ = _
           have : nameB k pk = false := by rw [← Hn.u, List.drop_eq_nil_of_le (by omega)]; rfl
           rw [Hst.u, this]; rfl
         go_wp2_with fail
         go_roundw
         case rel => exact ⟨k + 1, by omega, by go_num, by show _ = _; rw [← Hp.u, Hst2.u], Hb.u.then' hsz Hb2.u⟩
         case measure => simp [intOf]; omega
   · have Hv : Hid (badN 0 pss = -1) := by
       show _ = _
       rw [← Hp.u, List.drop_eq_nil_of_le (by rw [← Hlen.u]; omega)]; rfl
     go_wp2_with fail
     go_ret
     exact ⟨retI (by rw [Hv.u, orLen_neg (by omega), ← Hlen.u]), Hb.u⟩
theorem retB {a b : Bool} (h : a = b) : Ending.returned (.bool a) = .returned (.bool b) := by rw [h]
theorem isOperand_any (s n : Int) (w : World) :
  Calls Tryz.prog 145 #[.agg #[.int .u8 s, .int .i64 n]] w fun e w' => e = .returned (.bool (opdB s)) ∧ Below w.heap.size w w' := by
 by_cases h1 : s = 48
 ·subst h1
  go_enter Tryz.func145, Tryz.ntmps145
  go_wp2_with fail
  go_ret
  exact ⟨rfl, (Below.refl _ _).alloc (Nat.le_refl _) _⟩
 by_cases h2 : s = 64
 ·subst h2
  go_enter Tryz.func145, Tryz.ntmps145
  go_wp2_with fail
  go_ret
  exact ⟨rfl, (Below.refl _ _).alloc (Nat.le_refl _) _⟩
 by_cases h3 : s = 33
 ·subst h3
  go_enter Tryz.func145, Tryz.ntmps145
  go_wp2_with fail
  go_ret
  exact ⟨rfl, (Below.refl _ _).alloc (Nat.le_refl _) _⟩
 by_cases h4 : s = 35
 ·subst h4
  go_enter Tryz.func145, Tryz.ntmps145
  go_wp2_with fail
  go_ret
  exact ⟨rfl, (Below.refl _ _).alloc (Nat.le_refl _) _⟩
 by_cases h5 : s = 36
 ·subst h5
  go_enter Tryz.func145, Tryz.ntmps145
  go_wp2_with fail
  go_ret
  exact ⟨rfl, (Below.refl _ _).alloc (Nat.le_refl _) _⟩
 by_cases h6 : s = 60
 ·subst h6
  go_enter Tryz.func145, Tryz.ntmps145
  go_wp2_with fail
  go_ret
  exact ⟨rfl, (Below.refl _ _).alloc (Nat.le_refl _) _⟩
 have Hs : Hid (opdB s = false) := by show _ = _; simp [opdB, selB, oldB, h1, h2, h3, h4, h5, h6]
 have n1 : (s == 48) = false := by simpa using h1
 have n2 : (s == 64) = false := by simpa using h2
 have n3 : (s == 33) = false := by simpa using h3
 have n4 : (s == 35) = false := by simpa using h4
 have n5 : (s == 36) = false := by simpa using h5
 have n6 : (s == 60) = false := by simpa using h6
 clear h1 h2 h3 h4 h5 h6
 go_enter Tryz.func145, Tryz.ntmps145
 go_wp2_with fail
 go_ret
 exact ⟨retB Hs.u.symm, (Below.refl _ _).alloc (Nat.le_refl _) _⟩
theorem joinKinds_any (o l r : Int) (w : World) (ho : opB o = true) (hl : l = 0 ∨ l = 1) (hr : r = 0 ∨ r = 1) :
  Calls Tryz.prog 175 #[.int .u8 o, .int .i64 l, .int .i64 r] w fun e w' => e = .returned (.tuple #[.int .i64 (jk o l r).1, .bool (jk o l r).2]) ∧ w' = w := by
 simp [opB] at ho
 rcases ho with ((rfl | rfl) | rfl) | rfl <;> rcases hl with rfl | rfl <;> rcases hr with rfl | rfl
 all_goals
  go_enter Tryz.func175, Tryz.ntmps175
  go_wp2
  go_ret2
  exact ⟨rfl, rfl⟩
theorem operandKind_any (s n : Int) (v : Value) (ks : List Int) (B : Nat) (w : World) (hown : w.ownsRow B 199 1 v ks.length (ks.map (.int .i64))) (hks : ∀ x ∈ ks, x = 0 ∨ x = 1)
  (hn : oldB s = true → 0 ≤ n ∧ n.toNat < ks.length) :
  Calls Tryz.prog 174 #[.agg #[.int .u8 s, .int .i64 n], v] w fun e w' => ∃ k, e = .returned (.int .i64 k) ∧ (k = 0 ∨ k = 1) ∧ leafK (ks.map toR) (s, n) = toR k ∧ Below w.heap.size w w' := by
 have hml := oLen hown
 unfold maxLen at hml
 obtain ⟨ao, cap, rfl⟩ := oForm hown
 by_cases h1 : s = 64
 ·subst h1
  go_enter Tryz.func174, Tryz.ntmps174
  go_wp2_with fail
  go_ret
  exact ⟨1, rfl, .inr rfl, rfl, (Below.refl _ _).alloc (Nat.le_refl _) _⟩
 by_cases h2 : s = 33
 ·subst h2
  go_enter Tryz.func174, Tryz.ntmps174
  go_wp2_with fail
  go_ret
  exact ⟨1, rfl, .inr rfl, rfl, (Below.refl _ _).alloc (Nat.le_refl _) _⟩
 have n1 : (s == 64) = false := by simpa using h1
 have n2 : (s == 33) = false := by simpa using h2
 clear h1 h2
 cases ho : oldB s with
 | true =>
  obtain ⟨hn0, hnl⟩ := hn ho
  obtain ⟨m, rfl⟩ := Int.eq_ofNat_of_zero_le hn0
  rw [Int.toNat_natCast] at hnl
  obtain ⟨x, hx⟩ : ∃ x, ks[m]? = some x := ⟨ks[m], List.getElem?_eq_getElem hnl⟩
  have hx01 := hks x (List.mem_of_getElem? hx)
  obtain ⟨g, _, e1, hg, hg'⟩ := oSome hown (by omega)
  simp only [Value.slice.injEq, true_and] at e1
  obtain ⟨rfl, rfl⟩ := e1
  have c1 := oCell hown (j := m) (u := .int .i64 x) (by simp [hx])
  have Hk : Hid (leafK (ks.map toR) (s, (m : Int)) = toR x) := by
   show _ = _
   unfold leafK
   simp [n1, n2, ho, hx]
  have hml2 : (m : Int) < (ks.length : Int) := by omega
  clear hown hks hn hx
  go_enter Tryz.func174, Tryz.ntmps174
  go_wp2_with fail
  refine (namesRow_any s m _).mono ?_
  rintro e w1 ⟨rfl, hb1⟩
  rw [ho]
  have f1 := hb1.cell (p := ⟨w.heap.size, 1, none⟩) (by simp)
  simp at f1
  have hb1s := hb1.size
  simp at hb1s
  have Hb : Hid (Below w.heap.size w w1) := ((Below.refl _ _).alloc (Nat.le_refl _) _).then' (by simp) hb1
  have f2 := (Hb.u.cell (p := ⟨g, m, none⟩) hg').trans c1
  clear hb1
  go_wp2_with fail
  go_ret
  exact ⟨x, rfl, hx01, Hk.u, Hb.u⟩
 | false =>
  have Hk : Hid (leafK (ks.map toR) (s, n) = toR 0) := by
   show _ = _
   unfold leafK
   simp [n1, n2, ho, toR]
  clear hown hks hn
  go_enter Tryz.func174, Tryz.ntmps174
  go_wp2_with fail
  refine (namesRow_any s n _).mono ?_
  rintro e w1 ⟨rfl, hb1⟩
  rw [ho]
  have Hb : Hid (Below w.heap.size w w1) := ((Below.refl _ _).alloc (Nat.le_refl _) _).then' (by simp) hb1
  clear hb1
  go_wp2_with fail
  go_ret
  exact ⟨0, rfl, .inl rfl, Hk.u, Hb.u⟩
theorem selq_drop {q : Int → Bool} {ps : List Pt} {k : Nat} {p : Pt} (h : ps[k]? = some p) : selq q (ps.drop k) = ((selB p.1 && q p.2) || selq q (ps.drop (k + 1))) := any_drop (f := fun p : Pt => selB p.1 && q p.2) h
theorem sHasAccounts_any (Bl p : Nat) (b : Bk) (vr : Value) (vs : List Value) (pss : List (List Pt)) (B : Nat) (w : World) (hl : Led w Bl p b) (h : RowsAt w B vr vs pss) (h8 : pss.length ≤ 8) :
  Calls Tryz.prog 96 #[.pointer (some ⟨p, 0, none⟩), vr] w fun e w' => e = .returned (.bool (!pss.any (selq (notB b)))) ∧ Below w.heap.size w w' := by
 obtain ⟨ao, cap, rfl⟩ := oForm h.own
 have hvl : vs.length ≤ 8 := by rw [h.len]; exact h8
 have Hlen := hI h.len
 have H := hI h
 have HL := hI hl
 clear h hl
 go_enter Tryz.func96, Tryz.ntmps96
 go_wp2_with fail
 go_loopg [11] vs.length (fun m i wr => ∃ j : Nat, j ≤ vs.length ∧ m = vs.length - j ∧ i = .int .i64 j ∧ Hid ((pss.drop j).any (selq (notB b)) = pss.any (selq (notB b))) ∧ Hid (Below w.heap.size w wr))
 case atStart => exact ⟨0, by omega, rfl, rfl, rfl, Below.refl _ _⟩
 case round =>
  obtain ⟨j, hj, rfl, rfl, Hany, Hb⟩ := hrel
  have hsz := Hb.u.size
  by_cases hlt : j < vs.length
  ·obtain ⟨v, hv⟩ : ∃ v, vs[j]? = some v := ⟨vs[j], List.getElem?_eq_getElem hlt⟩
   obtain ⟨ps, hps⟩ : ∃ ps, pss[j]? = some ps := ⟨pss[j]'(by have := Hlen.u; omega), List.getElem?_eq_getElem _⟩
   obtain ⟨g, _, e1, hg, hg'⟩ := oSome H.u.own (by omega)
   simp only [Value.slice.injEq, true_and] at e1
   obtain ⟨rfl, rfl⟩ := e1
   have hro := oBelow H.u.own Hb.u
   have d := oCell hro (j := j) hv
   have hrow := H.u.row j v ps hv hps
   have hpl := H.u.bd ps (List.mem_of_getElem? hps)
   obtain ⟨aop, capp, rfl⟩ := oForm hrow
   have Hrow := hI hrow
   have Hdr := hI (any_drop (f := selq (notB b)) hps)
   clear hro hv hps hrow
   go_wp2_with fail
   obtain ⟨W, hW⟩ : ∃ W, wr.alloc (.cells #[.slice aop ps.length capp] 165) = W := ⟨_, rfl⟩
   rw [hW]
   have HbW : Hid (Below w.heap.size w W) := by rw [← hW]; exact Hb.u.alloc hsz _
   clear hW
   go_loopg [18] ps.length (fun m i wx => ∃ k : Nat, k ≤ ps.length ∧ m = ps.length - k ∧ i = .int .i64 k ∧ Hid (selq (notB b) (ps.drop k) = selq (notB b) ps) ∧ Hid (Below w.heap.size w wx))
   case atStart => exact ⟨0, by omega, rfl, rfl, rfl, HbW.u⟩
   case round =>
    obtain ⟨k, hk, rfl, rfl, Hs, Hbx⟩ := hrel
    have hszx := Hbx.u.size
    by_cases hlk : k < ps.length
    ·obtain ⟨⟨sg, nm⟩, hp⟩ : ∃ q, ps[k]? = some q := ⟨ps[k], List.getElem?_eq_getElem hlk⟩
     obtain ⟨g2, _, e1, hg2, hg2'⟩ := oSome Hrow.u (by omega)
     simp only [Value.slice.injEq, true_and] at e1
     obtain ⟨rfl, rfl⟩ := e1
     have hro := oBelow Hrow.u Hbx.u
     have h2 := two_get (fun p : Pt => Value.int .u8 p.1) (fun p => Value.int .i64 p.2) ps k (sg, nm) hp
     have d1 := oCell hro (j := k * 2) h2.1
     have d2 := oCell hro (j := k * 2 + 1) h2.2
     have Hst := hI (selq_drop (q := notB b) hp)
     simp only at d1 d2 Hst
     obtain ⟨sel, hsel⟩ : ∃ sel, selB sg = sel := ⟨_, rfl⟩
     have Hna := hI (fun wx : World => namesAccount_any sg nm wx)
     rw [hsel] at Hst Hna
     clear hro h2 hp hsel
     go_wp2_with fail
     refine (Hna.u _).mono ?_
     rintro e w2 ⟨rfl, hb2⟩
     have f1 := hb2.cell (p := ⟨wr.heap.size, 1, none⟩) (by simp)
     simp at f1
     have hsz2 := hb2.size
     simp at hsz2
     have Hb2 := hI ((Hbx.u.alloc hszx _).then' (by simp; omega) hb2)
     clear hb2 Hna
     cases sel with
     | false =>
      go_wp2_with fail
      go_roundg (ps.length - (k + 1))
      case measure => omega
      case rel => exact ⟨k + 1, by omega, rfl, by go_num, by show _ = _; rw [← Hs.u, Hst.u]; simp, Hb2.u⟩
     | true =>
      have Hha := hI (has_any Bl p b nm w2 (HL.u.kept Hb2.u))
      obtain ⟨th, hth⟩ : ∃ th, ther b nm = th := ⟨_, rfl⟩
      rw [show notB b nm = !th by unfold notB; rw [hth]] at Hst
      rw [hth] at Hha
      clear hth
      go_wp2_with fail
      refine Hha.u.mono ?_
      rintro e w3 ⟨rfl, rfl⟩
      cases th with
      | true =>
       go_wp2_with fail
       go_roundg (ps.length - (k + 1))
       case measure => omega
       case rel => exact ⟨k + 1, by omega, rfl, by go_num, by show _ = _; rw [← Hs.u, Hst.u]; simp, Hb2.u⟩
      | false =>
       go_wp2_with fail
       go_ret
       exact ⟨retB' (by rw [← Hany.u, Hdr.u, ← Hs.u, Hst.u]; simp), Hb2.u⟩
    ·obtain rfl : k = ps.length := by omega
     have Hno : Hid (selq (notB b) ps = false) := by show _ = _; rw [← Hs.u, List.drop_length]; rfl
     go_wp2_with fail
     go_roundg (vs.length - (j + 1))
     case measure => omega
     case rel => exact ⟨j + 1, by omega, rfl, by go_num, by show _ = _; rw [← Hany.u, Hdr.u, Hno.u]; simp, Hbx.u⟩
  ·obtain rfl : j = vs.length := by omega
   go_wp2_with fail
   go_ret
   exact ⟨retB' (by rw [← Hany.u, Hlen.u, List.drop_length]; rfl), Hb.u⟩
theorem grow_get {w : World} {q : Nat} {b : Bk} {pd : List (List UInt8 × List UInt8)} {cells : List (List Cl)} {p : Nat} {vp vc : Value} {vs : List Value} (h : ShtAt w q b pd cells p vp vc vs) {n k : Nat} (hn : n < cells.length) (hk : k < pd.length) :
  ∃ gc capc gr capr x y, vc = .slice (some ⟨gc, 0, none⟩) cells.length capc ∧ w.cell? ⟨gc, n, none⟩ = some (.slice (some ⟨gr, 0, none⟩) pd.length capr) ∧ w.cell? ⟨gr, k * 2, none⟩ = some (.int .i64 (gst y)) ∧ w.cell? ⟨gr, k * 2 + 1, none⟩ = some (.int .i64 x) ∧ (cells.getD n []).getD k (0, 0) = (x, y) ∧ gc < w.heap.size ∧ gr < w.heap.size := by
 obtain ⟨v, hv⟩ : ∃ v, vs[n]? = some v := ⟨vs[n]'(by rw [h.cs.len]; exact hn), List.getElem?_eq_getElem _⟩
 obtain ⟨c, hc⟩ : ∃ c, cells[n]? = some c := ⟨cells[n], List.getElem?_eq_getElem hn⟩
 have hr := h.cs.row n v c hv hc
 have hcl := h.wid c (List.mem_of_getElem? hc)
 obtain ⟨gc, capc, rfl, hg, hg'⟩ := oSome h.cs.own (by rw [h.cs.len]; omega)
 obtain ⟨gr, capr, rfl, hr1, hr2⟩ := oSome hr (by omega)
 obtain ⟨x, hx⟩ : ∃ x, c[k]? = some x := ⟨c[k]'(by omega), List.getElem?_eq_getElem _⟩
 have h2 := two_get (fun c : Cl => Value.int .i64 (gst c.2)) (fun c => Value.int .i64 c.1) c k x hx
 have d0 := oCell h.cs.own (j := n) hv
 have d1 := oCell hr (j := k * 2) h2.1
 have d2 := oCell hr (j := k * 2 + 1) h2.2
 refine ⟨gc, capc, gr, capr, x.1, x.2, by rw [h.cs.len], by rw [d0, hcl], d1, d2, ?_, hg', hr2⟩
 have e1 : cells.getD n [] = c := by rw [List.getD_eq_getElem?_getD, hc, Option.getD_some]
 rw [e1, List.getD_eq_getElem?_getD, hx, Option.getD_some]
theorem three_cells {W : World} {n : Nat} {a b c : Value} {T : TypeId} (B : Blk W n #[a, b, c] T) : W.cell? ⟨n, 0, none⟩ = some a ∧ W.cell? ⟨n, 1, none⟩ = some b ∧ W.cell? ⟨n, 2, none⟩ = some c := by
 refine ⟨?_, ?_, ?_⟩ <;> rw [B.cell] <;> rfl
theorem at_cell (q n k : Nat) (b : Bk) (pd : List (List UInt8 × List UInt8)) (cells : List (List Cl)) (w : World) (h : Sht' w q b pd cells) (hn : n < cells.length) (hk : k < pd.length) :
  Calls Tryz.prog 202 #[.pointer (some ⟨q, 0, none⟩), .int .i64 (n : Int), .int .i64 (k : Int)] w fun e w' => e = .returned (gV ((cells.getD n []).getD k (0, 0))) ∧ Below w.heap.size w w' := by
 obtain ⟨p, vp, vc, vs, h⟩ := h
 obtain ⟨gc, capc, gr, capr, x, y, rfl, r1, r2, r3, hxy, hgc, hgr⟩ := grow_get h hn hk
 rw [hxy]
 obtain ⟨c0, c1, c2⟩ := three_cells h.blk
 have hql := h.blk.lt
 have hf := h.few
 have hnc : (n : Int) < (cells.length : Int) := by omega
 have hkp : (k : Int) < (pd.length : Int) := by omega
 have hnn : ¬ (cells.length : Int) ≤ (n : Int) := by omega
 have hkk : ¬ (pd.length : Int) ≤ (k : Int) := by omega
 unfold gV
 simp only
 obtain ⟨z, hz⟩ : ∃ z, gst y = z := ⟨_, rfl⟩
 rw [hz] at r2 ⊢
 clear h hxy hz
 go_enter Tryz.func202, Tryz.ntmps202
 go_wp2_with fail
 refine bodyPost_ret (v := .agg #[.int .i64 z, .int .i64 x]) (by simp [results, Tryz.results202, go_sem]) rfl ⟨rfl, ?_⟩
 first
  | exact (((Below.refl _ _).alloc (Nat.le_refl _) _).setCell (by simp) _).setCell (by simp) _
  | exact (Below.refl _ _).alloc (Nat.le_refl _) _
theorem at_first (q n : Nat) (b : Bk) (pd : List (List UInt8 × List UInt8)) (cells : List (List Cl)) (w : World) (h : Sht' w q b pd cells) (hn : n < cells.length) (hk : 0 < pd.length) :
  Calls Tryz.prog 202 #[.pointer (some ⟨q, 0, none⟩), .int .i64 (n : Int), .int .i64 (-1)] w fun e w' => e = .returned (gV (0, 0)) ∧ Below w.heap.size w w' := by
 obtain ⟨p, vp, vc, vs, h⟩ := h
 obtain ⟨gc, capc, gr, capr, x, y, rfl, r1, r2, r3, hxy, hgc, hgr⟩ := grow_get h hn hk
 obtain ⟨c0, c1, c2⟩ := three_cells h.blk
 have hql := h.blk.lt
 have hf := h.few
 have hnc : (n : Int) < (cells.length : Int) := by omega
 have hnn : ¬ (cells.length : Int) ≤ (n : Int) := by omega
 unfold gV
 simp only
 rw [gst_z0]
 clear h hxy
 go_enter Tryz.func202, Tryz.ntmps202
 go_wp2_with fail
 refine (of_any 0 _).mono ?_
 rintro e w1 ⟨rfl, hb⟩
 have HB : Hid (Below w.heap.size w w1) := ((Below.refl _ _).alloc (Nat.le_refl _) _).then' (by simp) hb
 obtain ⟨r0, r1, z0, z1, lr⟩ := two_cells ((Blk.new w #[.int .i64 0, .int .i64 0] 205).kept hb)
 clear hb
 go_wp2_with fail
 refine bodyPost_ret (v := .agg #[.int .i64 0, .int .i64 0]) (by simp [results, Tryz.results202, go_sem, r0, r1]) rfl ⟨rfl, ?_⟩
 exact (HB.u.setCell (by simp) _).setCell (by simp) _
structure CutQ (w3 wx : World) (g : Nat) (a b : Value) (T : TypeId) : Prop where
 ge : w3.heap.size ≤ g
 blk : Blk wx g #[a, b] T
 bel : Below w3.heap.size w3 wx
theorem cutQA {w3 w4 : World} {a b a0 b0 : Value} {T : TypeId} (h : Below (w3.drew.alloc (.cells #[a0, b0] T)).heap.size (w3.drew.alloc (.cells #[a0, b0] T)) w4) :
  CutQ w3 ((w4.setCell ⟨w3.heap.size, 0, none⟩ a).setCell ⟨w3.heap.size, 1, none⟩ b) w3.heap.size a b T := by
 have B0 : Blk w4 w3.heap.size #[a0, b0] T := (Blk.new w3.drew _ _).kept h
 have B1 := (B0.set 0 a).set 1 b
 have h0 : Below w3.heap.size w3.drew w4 := ((Below.refl _ w3.drew).alloc (Nat.le_refl _) _).then' (by simp) h
 exact ⟨Nat.le_refl _, by simpa using B1, (h0.undrew.setCell (by simp) _).setCell (by simp) _⟩
theorem cutQB {w3 w4 : World} {a b : Value} {T : TypeId} (h : Below w3.drew.heap.size w3.drew w4) : CutQ w3 (w4.alloc (.cells #[a, b] T)) w4.heap.size a b T := by
 have h0 : Below w3.heap.size w3 w4 := Below.undrew h
 exact ⟨h0.size, Blk.new _ _ _, h0.alloc h0.size _⟩
theorem kept_al {W W' : World} {o : Obj} (h : Below W.heap.size W W') {a : Addr} {v : Value} (hc : W.cell? a = some v) : (W'.alloc o).cell? a = some v := by
 have h1 := kept_cell' h hc
 rw [World.cell?_alloc_some _ _ _ (by rw [h1]; rfl)]; exact h1
theorem per_get {w : World} {B : Nat} {vp : Value} {pd : List (List UInt8 × List UInt8)} (h : w.ownsRow B 177 2 vp pd.length (cellsD pd)) {k : Nat} (hk : k < pd.length) :
  ∃ gp capp x y, vp = .slice (some ⟨gp, 0, none⟩) pd.length capp ∧ w.cell? ⟨gp, k * 2, none⟩ = some (.int .i64 x) ∧ w.cell? ⟨gp, k * 2 + 1, none⟩ = some (.int .i64 y) ∧ (pdv pd).getD k (0, 0) = (x, y) ∧ gp < w.heap.size := by
 obtain ⟨gp, capp, rfl, _, hf⟩ := oSome h (by omega)
 obtain ⟨p, hp⟩ : ∃ p, pd[k]? = some p := ⟨pd[k], List.getElem?_eq_getElem hk⟩
 have h2 := two_get (fun p : List UInt8 × List UInt8 => Value.int .i64 (val p.1)) (fun p => Value.int .i64 (val p.2)) pd k p hp
 have d1 := oCell h (j := k * 2) h2.1
 have d2 := oCell h (j := k * 2 + 1) h2.2
 refine ⟨gp, capp, _, _, rfl, d1, d2, ?_, hf⟩
 rw [List.getD_eq_getElem?_getD, show (pdv pd)[k]? = some (val p.1, val p.2) by unfold pdv; rw [List.getElem?_map, hp]; rfl, Option.getD_some]
def belS (s : Int) (u : Int × Int) : Int := if s == 35 then u.2 else u.1
theorem sMove_alone (q k : Nat) (n : Int) (b : Bk) (pd : List (List UInt8 × List UInt8)) (cells : List (List Cl)) (w : World) (h : Sht' w q b pd cells) (hk : k < pd.length) :
  Calls Tryz.prog 203 #[.pointer (some ⟨q, 0, none⟩), .agg #[.int .u8 33, .int .i64 n], .int .i64 (k : Int)] w fun e w' => e = .returned (.agg #[.int .i64 0, .int .i64 (aloneM b n ((pdv pd).getD k (0, 0)).1 ((pdv pd).getD k (0, 0)).2).1]) ∧ Below w.heap.size w w' := by
 obtain ⟨p, vp, vc, vs, h⟩ := h
 obtain ⟨Bp, hper⟩ := h.per
 obtain ⟨gp, capp, x, y, rfl, d1, d2, hxy, hgp⟩ := per_get hper hk
 obtain ⟨Bl, hled⟩ := h.led
 rw [hxy]
 simp only
 obtain ⟨c0, c1, c2⟩ := three_cells h.blk
 have hql := h.blk.lt
 have hf := h.few
 have hkp : (k : Int) < (pd.length : Int) := by omega
 have hkk : ¬ (pd.length : Int) ≤ (k : Int) := by omega
 obtain ⟨W3, hW3⟩ : ∃ W3, ((w.alloc (.cells #[.int .u8 33, .int .i64 n] 197)).alloc (.cells #[.int .i64 0, .int .i64 0] 205)).alloc (.cells #[.int .i64 x, .int .i64 y] 177) = W3 := ⟨_, rfl⟩
 have Hb3 : Hid (Below w.heap.size w W3) := by rw [← hW3]; exact (((Below.refl _ _).alloc (Nat.le_refl _) _).alloc (by simp) _).alloc (by simp; omega) _
 have hs3 : W3.heap.size = w.heap.size + 3 := by rw [← hW3]; simp
 have HP : Hid (Blk W3 w.heap.size #[.int .u8 33, .int .i64 n] 197) := by rw [← hW3]; exact ((Blk.new _ _ _).alloc _).alloc _
 have HC : Hid (Blk W3 (w.heap.size + 1) #[.int .i64 0, .int .i64 0] 205) := by
  rw [← hW3]
  show Blk _ _ _ _
  have := (Blk.new (w.alloc (.cells #[.int .u8 33, .int .i64 n] 197)) #[.int .i64 0, .int .i64 0] 205).alloc (.cells #[.int .i64 x, .int .i64 y] 177)
  simpa using this
 have HD : Hid (Blk W3 (w.heap.size + 2) #[.int .i64 x, .int .i64 y] 177) := by
  rw [← hW3]
  show Blk _ _ _ _
  have := Blk.new ((w.alloc (.cells #[.int .u8 33, .int .i64 n] 197)).alloc (.cells #[.int .i64 0, .int .i64 0] 205)) #[.int .i64 x, .int .i64 y] 177
  simpa using this
 have Hal := hI (fun (wx : World) (hb : Below w.heap.size w wx) => alone_any Bl p b n x y wx (hled.kept hb))
 obtain ⟨u, hu⟩ : ∃ u, aloneM b n x y = u := ⟨_, rfl⟩
 rw [hu] at Hal ⊢
 clear h hxy hper hled hu
 have q1 := (Hb3.u.cell (p := ⟨q, 1, none⟩) hql).trans c1
 have p0 := HP.u.cell 0
 have p1 := HP.u.cell 1
 have e0 := HD.u.cell 0
 have e1 := HD.u.cell 1
 simp only [List.getElem?_toArray, List.getElem?_cons_zero, List.getElem?_cons_succ] at p0 p1 e0 e1
 go_enter Tryz.func203, Tryz.ntmps203
 go_upto_region 5 with fail
 try rw [hW3]
 clear hW3 c0 c1 c2 d1 d2
 have HCA := hI (fun (w4 : World) => cutQA (w3 := W3) (w4 := w4) (a := .int .i64 u.1) (b := .int .i64 u.2) (a0 := .int .i64 0) (b0 := .int .i64 0) (T := 213))
 have HCB := hI (fun (w4 : World) => cutQB (w3 := W3) (w4 := w4) (a := .int .i64 u.1) (b := .int .i64 u.2) (T := 213))
 go_cut [8] (fun vj wx => ∃ g : Nat, vj = .pointer (some ⟨g, 0, none⟩) ∧ CutQ W3 wx g (.int .i64 u.1) (.int .i64 u.2) 213)
 case first =>
  have hql3 : q < W3.heap.size := by omega
  have hw31 : w.heap.size < W3.heap.size := by omega
  have hw32 : w.heap.size + 2 < W3.heap.size := by omega
  have hw33 : w.heap.size ≤ W3.heap.size := by omega
  have hne : W3.heap.size ≠ q := by omega
  have hne1 : W3.heap.size ≠ w.heap.size := by omega
  have hne2 : W3.heap.size ≠ w.heap.size + 2 := by omega
  clear hs3
  go_region_held3 (fun w' => w'.cell? ⟨q, 1, none⟩ = some (.pointer (some ⟨p, 0, none⟩)) ∧ w'.cell? ⟨w.heap.size, 1, none⟩ = some (.int .i64 n) ∧ w'.cell? ⟨w.heap.size + 2, 0, none⟩ = some (.int .i64 x) ∧ w'.cell? ⟨w.heap.size + 2, 1, none⟩ = some (.int .i64 y)) (first | go_keep | exact ⟨kept_cell' hb4 (by simp [*]), kept_cell' hb4 (by simp [*]), kept_cell' hb4 (by simp [*]), kept_cell' hb4 (by simp [*])⟩ | exact ⟨kept_al hb4 (by simp [*]), kept_al hb4 (by simp [*]), kept_al hb4 (by simp [*]), kept_al hb4 (by simp [*])⟩) (first | (go_at_call 141; refine (Hal.u _ (by first | exact (Hb3.u.drew.alloc (by exact hw33) _) | exact Hb3.u.drew)).mono ?_; rintro e w4 ⟨rfl, hb4⟩; have k0 := fun h => hb4.cell (p := ⟨W3.heap.size, 0, none⟩) h; have k1 := fun h => hb4.cell (p := ⟨W3.heap.size, 1, none⟩) h; have y0 := fun h => hb4.frozen (p := ⟨W3.heap.size, 0, none⟩) h; have y1 := fun h => hb4.frozen (p := ⟨W3.heap.size, 1, none⟩) h; simp at k0 k1 y0 y1))
  all_goals (try go_wp2_with fail)
  all_goals go_meet
  all_goals first
   | exact ⟨W3.heap.size, rfl, HCA.u w4 hb4⟩
   | exact ⟨w4.heap.size, rfl, HCB.u w4 hb4⟩
 case rest =>
  obtain ⟨g, rfl, hr⟩ := hcut
  obtain ⟨m0, m1, _, _, lm⟩ := two_cells hr.blk
  have Hbr := hI (Hb3.u.then' (by omega) hr.bel)
  have HCr := hI (HC.u.kept hr.bel)
  have hszr := hr.bel.size
  clear hr
  go_wp2_with fail
  refine (of_any u.1 _).mono ?_
  rintro e w6 ⟨rfl, hb6⟩
  obtain ⟨r0, r1, z0, z1, lr⟩ := two_cells (HCr.u.kept hb6)
  have Hb6 := hI (Hbr.u.then' (by omega) hb6)
  clear hb6
  go_wp2_with fail
  refine bodyPost_ret (v := .agg #[.int .i64 0, .int .i64 u.1]) (by simp [results, Tryz.results203, go_sem, r0, r1]) rfl ⟨rfl, ?_⟩
  exact (Hb6.u.setCell (by simp) _).setCell (by simp) _
theorem sMove_below (q k : Nat) (s n : Int) (h33 : (s == 33) = false) (b : Bk) (pd : List (List UInt8 × List UInt8)) (cells : List (List Cl)) (w : World) (h : Sht' w q b pd cells) (hk : k < pd.length) :
  Calls Tryz.prog 203 #[.pointer (some ⟨q, 0, none⟩), .agg #[.int .u8 s, .int .i64 n], .int .i64 (k : Int)] w fun e w' => e = .returned (.agg #[.int .i64 0, .int .i64 (belS s (belowM b n ((pdv pd).getD k (0, 0)).1 ((pdv pd).getD k (0, 0)).2))]) ∧ Below w.heap.size w w' := by
 obtain ⟨p, vp, vc, vs, h⟩ := h
 obtain ⟨Bp, hper⟩ := h.per
 obtain ⟨gp, capp, x, y, rfl, d1, d2, hxy, hgp⟩ := per_get hper hk
 obtain ⟨Bl, hled⟩ := h.led
 rw [hxy]
 simp only
 obtain ⟨c0, c1, c2⟩ := three_cells h.blk
 have hql := h.blk.lt
 have hf := h.few
 have hkp : (k : Int) < (pd.length : Int) := by omega
 have hkk : ¬ (pd.length : Int) ≤ (k : Int) := by omega
 obtain ⟨W3, hW3⟩ : ∃ W3, ((w.alloc (.cells #[.int .u8 s, .int .i64 n] 197)).alloc (.cells #[.int .i64 0, .int .i64 0] 205)).alloc (.cells #[.int .i64 x, .int .i64 y] 177) = W3 := ⟨_, rfl⟩
 have Hb3 : Hid (Below w.heap.size w W3) := by rw [← hW3]; exact (((Below.refl _ _).alloc (Nat.le_refl _) _).alloc (by simp) _).alloc (by simp; omega) _
 have hs3 : W3.heap.size = w.heap.size + 3 := by rw [← hW3]; simp
 have HP : Hid (Blk W3 w.heap.size #[.int .u8 s, .int .i64 n] 197) := by rw [← hW3]; exact ((Blk.new _ _ _).alloc _).alloc _
 have HC : Hid (Blk W3 (w.heap.size + 1) #[.int .i64 0, .int .i64 0] 205) := by
  rw [← hW3]
  show Blk _ _ _ _
  have := (Blk.new (w.alloc (.cells #[.int .u8 s, .int .i64 n] 197)) #[.int .i64 0, .int .i64 0] 205).alloc (.cells #[.int .i64 x, .int .i64 y] 177)
  simpa using this
 have HD : Hid (Blk W3 (w.heap.size + 2) #[.int .i64 x, .int .i64 y] 177) := by
  rw [← hW3]
  show Blk _ _ _ _
  have := Blk.new ((w.alloc (.cells #[.int .u8 s, .int .i64 n] 197)).alloc (.cells #[.int .i64 0, .int .i64 0] 205)) #[.int .i64 x, .int .i64 y] 177
  simpa using this
 have Hal := hI (fun (wx : World) (hb : Below w.heap.size w wx) => below_any Bl p b n x y wx (hled.kept hb))
 obtain ⟨u, hu⟩ : ∃ u, belowM b n x y = u := ⟨_, rfl⟩
 rw [hu] at Hal ⊢
 clear h hxy hper hled hu
 have q1 := (Hb3.u.cell (p := ⟨q, 1, none⟩) hql).trans c1
 have p0 := HP.u.cell 0
 have p1 := HP.u.cell 1
 have e0 := HD.u.cell 0
 have e1 := HD.u.cell 1
 simp only [List.getElem?_toArray, List.getElem?_cons_zero, List.getElem?_cons_succ] at p0 p1 e0 e1
 go_enter Tryz.func203, Tryz.ntmps203
 go_upto_region 7 with fail
 try rw [hW3]
 clear hW3 c0 c1 c2 d1 d2
 have HCA := hI (fun (w4 : World) => cutQA (w3 := W3) (w4 := w4) (a := .int .i64 u.1) (b := .int .i64 u.2) (a0 := .int .i64 0) (b0 := .int .i64 0) (T := 213))
 have HCB := hI (fun (w4 : World) => cutQB (w3 := W3) (w4 := w4) (a := .int .i64 u.1) (b := .int .i64 u.2) (T := 213))
 go_cut [9] (fun vj wx => ∃ g : Nat, vj = .pointer (some ⟨g, 0, none⟩) ∧ CutQ W3 wx g (.int .i64 u.1) (.int .i64 u.2) 213)
 case first =>
  have hql3 : q < W3.heap.size := by omega
  have hw31 : w.heap.size < W3.heap.size := by omega
  have hw32 : w.heap.size + 2 < W3.heap.size := by omega
  have hw33 : w.heap.size ≤ W3.heap.size := by omega
  have hne : W3.heap.size ≠ q := by omega
  have hne1 : W3.heap.size ≠ w.heap.size := by omega
  have hne2 : W3.heap.size ≠ w.heap.size + 2 := by omega
  clear hs3
  go_region_held3 (fun w' => w'.cell? ⟨q, 1, none⟩ = some (.pointer (some ⟨p, 0, none⟩)) ∧ w'.cell? ⟨w.heap.size, 1, none⟩ = some (.int .i64 n) ∧ w'.cell? ⟨w.heap.size + 2, 0, none⟩ = some (.int .i64 x) ∧ w'.cell? ⟨w.heap.size + 2, 1, none⟩ = some (.int .i64 y)) (first | go_keep | exact ⟨kept_cell' hb4 (by simp [*]), kept_cell' hb4 (by simp [*]), kept_cell' hb4 (by simp [*]), kept_cell' hb4 (by simp [*])⟩ | exact ⟨kept_al hb4 (by simp [*]), kept_al hb4 (by simp [*]), kept_al hb4 (by simp [*]), kept_al hb4 (by simp [*])⟩) (first | (go_at_call 216; refine (Hal.u _ (by first | exact (Hb3.u.drew.alloc (by exact hw33) _) | exact Hb3.u.drew)).mono ?_; rintro e w4 ⟨rfl, hb4⟩; have k0 := fun h => hb4.cell (p := ⟨W3.heap.size, 0, none⟩) h; have k1 := fun h => hb4.cell (p := ⟨W3.heap.size, 1, none⟩) h; have y0 := fun h => hb4.frozen (p := ⟨W3.heap.size, 0, none⟩) h; have y1 := fun h => hb4.frozen (p := ⟨W3.heap.size, 1, none⟩) h; simp at k0 k1 y0 y1))
  all_goals (try go_wp2_with fail)
  all_goals go_meet
  all_goals first
   | exact ⟨W3.heap.size, rfl, HCA.u w4 hb4⟩
   | exact ⟨w4.heap.size, rfl, HCB.u w4 hb4⟩
 case rest =>
  obtain ⟨g, rfl, hr⟩ := hcut
  obtain ⟨m0, m1, _, _, lm⟩ := two_cells hr.blk
  have Hbr := hI (Hb3.u.then' (by omega) hr.bel)
  have HCr := hI (HC.u.kept hr.bel)
  have hszr := hr.bel.size
  have HPr := hI (HP.u.kept hr.bel)
  have s0 := HPr.u.cell 0
  simp only [List.getElem?_toArray, List.getElem?_cons_zero] at s0
  clear hr
  cases h35 : (s == 35) with
  | true =>
   have Hr : Hid (belS s u = u.2) := by show _ = _; unfold belS; rw [h35]; rfl
   go_wp2_with fail
   refine (of_any u.2 _).mono ?_
   rintro e w6 ⟨rfl, hb6⟩
   obtain ⟨r0, r1, z0, z1, lr⟩ := two_cells (HCr.u.kept hb6)
   have Hb6 := hI (Hbr.u.then' (by omega) hb6)
   clear hb6
   go_wp2_with fail
   refine bodyPost_ret (v := .agg #[.int .i64 0, .int .i64 u.2]) (by simp [results, Tryz.results203, go_sem, r0, r1]) rfl ⟨by rw [Hr.u], ?_⟩
   exact (Hb6.u.setCell (by simp) _).setCell (by simp) _
  | false =>
   have Hr : Hid (belS s u = u.1) := by show _ = _; unfold belS; rw [h35]; rfl
   go_wp2_with fail
   refine (of_any u.1 _).mono ?_
   rintro e w6 ⟨rfl, hb6⟩
   obtain ⟨r0, r1, z0, z1, lr⟩ := two_cells (HCr.u.kept hb6)
   have Hb6 := hI (Hbr.u.then' (by omega) hb6)
   clear hb6
   go_wp2_with fail
   refine bodyPost_ret (v := .agg #[.int .i64 0, .int .i64 u.1]) (by simp [results, Tryz.results203, go_sem, r0, r1]) rfl ⟨by rw [Hr.u], ?_⟩
   exact (Hb6.u.setCell (by simp) _).setCell (by simp) _
theorem opv_sel {b : Bk} {pd : List (List UInt8 × List UInt8)} {cells : List (List Cl)} {k : Nat} {s n : Int} (hs : selB s = true) :
  opv (gE b pd cells k) (s, n) = ((if s == 33 then (aloneM b n ((pdv pd).getD k (0, 0)).1 ((pdv pd).getD k (0, 0)).2).1 else belS s (belowM b n ((pdv pd).getD k (0, 0)).1 ((pdv pd).getD k (0, 0)).2)), 0) := by
 have n48 := sel_ne hs 48 rfl
 have n36 := sel_ne hs 36 rfl
 have n60 := sel_ne hs 60 rfl
 unfold opv gE opE belS aloneM belowM
 simp only [n48, n36, n60, Bool.false_eq_true, if_false]
 have hin33 : inA b 33 n = fun a => a == n := by funext a; rfl
 by_cases h33 : s = 33
 ·subst h33
  rw [hin33]; rfl
 ·have e33 : (s == 33) = false := by simpa using h33
  have hin : inA b s n = wth b.acs n 16 := by funext a; unfold inA; rw [e33]; rfl
  rw [hin, e33]
  cases (s == 35) <;> rfl
theorem sOperand_any (q k : Nat) (b : Bk) (pd : List (List UInt8 × List UInt8)) (cells : List (List Cl)) (w : World) (s n : Int) (ho : opdB s = true) (h : Sht' w q b pd cells) (hk : k < pd.length) (hin : inR n = true) (hn : oldB s = true → 0 ≤ n ∧ n.toNat < cells.length) :
  Calls Tryz.prog 176 #[.pointer (some ⟨q, 0, none⟩), .agg #[.int .u8 s, .int .i64 n], .int .i64 (k : Int)] w fun e w' => e = .returned (gV (opv (gE b pd cells k) (s, n))) ∧ ClOk (opv (gE b pd cells k) (s, n)) ∧ Below w.heap.size w w' := by
 have hgood := h.good
 have hok : ∀ row ∈ cells, ∀ c ∈ row, ClOk c := by obtain ⟨_, _, _, _, h⟩ := h; exact h.ok
 obtain ⟨hk4, hc8⟩ : pd.length ≤ 4 ∧ cells.length ≤ 8 := by obtain ⟨_, _, _, _, h⟩ := h; exact h.few
 obtain ⟨W, hW, B1, B2, hbW, hWs⟩ : ∃ W, (w.alloc (.cells #[.int .u8 s, .int .i64 n] 197)).alloc (.cells #[.int .i64 0, .int .i64 0] 205) = W ∧ Blk W w.heap.size #[.int .u8 s, .int .i64 n] 197 ∧ Blk W (w.heap.size + 1) #[.int .i64 0, .int .i64 0] 205 ∧ Below w.heap.size w W ∧ W.heap.size = w.heap.size + 2 := by
  refine ⟨_, rfl, (Blk.new _ _ _).alloc _, ?_, ((Below.refl _ _).alloc (Nat.le_refl _) _).alloc (by simp) _, by simp⟩
  have := Blk.new (w.alloc (.cells #[.int .u8 s, .int .i64 n] 197)) #[.int .i64 0, .int .i64 0] 205
  simpa using this
 obtain ⟨p0, p1, _, _, lp⟩ := two_cells B1
 have HB2 := hI B2
 have HbW := hI hbW
 have HS := hI (h.kept hbW)
 have hcase : oldB s = true ∨ selB s = true ∨ s = 48 := by
  unfold opdB at ho
  simp only [Bool.or_eq_true, beq_iff_eq] at ho
  rcases ho with (ho | ho) | ho
  ·exact .inr (.inr ho)
  ·exact .inr (.inl ho)
  ·exact .inl ho
 clear B1 B2 hbW h
 rcases hcase with hold | hsel | rfl
 ·obtain ⟨hn0, hnc⟩ := hn hold
  obtain ⟨m, rfl⟩ : ∃ m : Nat, n = m := ⟨n.toNat, by omega⟩
  rw [Int.toNat_natCast] at hnc
  have hcc : s = 36 ∨ s = 60 := by simp [oldB] at hold; exact hold
  clear hn ho hold hn0
  rcases hcc with rfl | rfl
  ·have e1 : opv (gE b pd cells k) (36, (m : Int)) = (cells.getD m []).getD k (0, 0) := rfl
   rw [e1]
   have Hok := hI (cell_ok hok m k)
   have Hat := hI (at_cell q m k b pd cells W HS.u hnc hk)
   obtain ⟨c, hc⟩ : ∃ c, (cells.getD m []).getD k (0, 0) = c := ⟨_, rfl⟩
   rw [hc] at Hok Hat ⊢
   obtain ⟨c1, c2⟩ := c
   unfold gV at Hat ⊢
   simp only at Hat ⊢
   obtain ⟨z, hz⟩ : ∃ z, gst c2 = z := ⟨_, rfl⟩
   rw [hz] at Hat ⊢
   clear hc hz e1
   go_enter Tryz.func176, Tryz.ntmps176
   go_wp2_with fail
   try rw [hW]
   refine Hat.u.mono ?_
   rintro e w1 ⟨rfl, hb⟩
   obtain ⟨r0, r1, z0, z1, lr⟩ := two_cells (HB2.u.kept hb)
   have Hb1 := hI (HbW.u.then' (by omega) hb)
   clear hb
   go_wp2_with fail
   refine bodyPost_ret (v := .agg #[.int .i64 z, .int .i64 c1]) (by simp [results, Tryz.results176, go_sem, r0, r1]) rfl ⟨rfl, Hok.u, ?_⟩
   exact (Hb1.u.setCell (by simp) _).setCell (by simp) _
  ·cases k with
   | zero =>
    have e1 : opv (gE b pd cells 0) (60, (m : Int)) = (0, 0) := rfl
    rw [e1]
    have Hat := hI (at_first q m b pd cells W HS.u hnc hk)
    unfold gV at Hat ⊢
    rw [gst_z0] at Hat ⊢
    simp only at Hat ⊢
    clear e1
    go_enter Tryz.func176, Tryz.ntmps176
    go_wp2_with fail
    try rw [hW]
    refine Hat.u.mono ?_
    rintro e w1 ⟨rfl, hb⟩
    obtain ⟨r0, r1, z0, z1, lr⟩ := two_cells (HB2.u.kept hb)
    have Hb1 := hI (HbW.u.then' (by omega) hb)
    clear hb
    go_wp2_with fail
    refine bodyPost_ret (v := .agg #[.int .i64 0, .int .i64 0]) (by simp [results, Tryz.results176, go_sem, r0, r1]) rfl ⟨rfl, .inl ⟨rfl, rfl⟩, ?_⟩
    exact (Hb1.u.setCell (by simp) _).setCell (by simp) _
   | succ k =>
    have e1 : opv (gE b pd cells (k + 1)) (60, (m : Int)) = (cells.getD m []).getD k (0, 0) := rfl
    rw [e1]
    have Hok := hI (cell_ok hok m k)
    have Hat := hI (at_cell q m k b pd cells W HS.u hnc (by omega))
    obtain ⟨c, hc⟩ : ∃ c, (cells.getD m []).getD k (0, 0) = c := ⟨_, rfl⟩
    rw [hc] at Hok Hat ⊢
    obtain ⟨c1, c2⟩ := c
    unfold gV at Hat ⊢
    simp only at Hat ⊢
    obtain ⟨z, hz⟩ : ∃ z, gst c2 = z := ⟨_, rfl⟩
    rw [hz] at Hat ⊢
    have hk5 : k ≤ 4 := by omega
    have hkc : ((k + 1 : Nat) : Int) = (k : Int) + 1 := by omega
    clear hc hz e1
    go_enter Tryz.func176, Tryz.ntmps176
    go_wp2_with fail
    try rw [hW]
    refine Hat.u.mono ?_
    rintro e w1 ⟨rfl, hb⟩
    obtain ⟨r0, r1, z0, z1, lr⟩ := two_cells (HB2.u.kept hb)
    have Hb1 := hI (HbW.u.then' (by omega) hb)
    clear hb
    go_wp2_with fail
    refine bodyPost_ret (v := .agg #[.int .i64 z, .int .i64 c1]) (by simp [results, Tryz.results176, go_sem, r0, r1]) rfl ⟨rfl, Hok.u, ?_⟩
    exact (Hb1.u.setCell (by simp) _).setCell (by simp) _
 ·rw [opv_sel hsel]
  have Hok : Hid (ClOk ((if s == 33 then (aloneM b n ((pdv pd).getD k (0, 0)).1 ((pdv pd).getD k (0, 0)).2).1 else belS s (belowM b n ((pdv pd).getD k (0, 0)).1 ((pdv pd).getD k (0, 0)).2)), 0)) := by
   refine .inl ⟨rfl, ?_⟩
   simp only
   split
   ·exact (tkT_in hgood _ _ _).1
   ·unfold belS
    split
    ·exact (tkT_in hgood _ _ _).2
    ·exact (tkT_in hgood _ _ _).1
  have Hmv : Hid (Calls Tryz.prog 203 #[.pointer (some ⟨q, 0, none⟩), .agg #[.int .u8 s, .int .i64 n], .int .i64 (k : Int)] W fun e w' => e = .returned (.agg #[.int .i64 0, .int .i64 (if s == 33 then (aloneM b n ((pdv pd).getD k (0, 0)).1 ((pdv pd).getD k (0, 0)).2).1 else belS s (belowM b n ((pdv pd).getD k (0, 0)).1 ((pdv pd).getD k (0, 0)).2))]) ∧ Below W.heap.size W w') := by
   by_cases h33 : s = 33
   ·subst h33
    exact sMove_alone q k n b pd cells W HS.u hk
   ·have e33 : (s == 33) = false := by simpa using h33
    rw [e33]
    exact sMove_below q k s n e33 b pd cells W HS.u hk
  obtain ⟨r, hr⟩ : ∃ r, (if s == 33 then (aloneM b n ((pdv pd).getD k (0, 0)).1 ((pdv pd).getD k (0, 0)).2).1 else belS s (belowM b n ((pdv pd).getD k (0, 0)).1 ((pdv pd).getD k (0, 0)).2)) = r := ⟨_, rfl⟩
  rw [hr] at Hok Hmv ⊢
  unfold gV
  rw [gst_z0]
  simp only
  have hcc : s = 64 ∨ s = 33 ∨ s = 35 := by simp [selB] at hsel; omega
  clear hr hn ho hsel
  rcases hcc with rfl | rfl | rfl
  all_goals
   go_enter Tryz.func176, Tryz.ntmps176
   go_wp2_with fail
   try rw [hW]
   refine Hmv.u.mono ?_
   rintro e w1 ⟨rfl, hb⟩
   obtain ⟨r0, r1, z0, z1, lr⟩ := two_cells (HB2.u.kept hb)
   have Hb1 := hI (HbW.u.then' (by omega) hb)
   clear hb
   go_wp2_with fail
   refine bodyPost_ret (v := .agg #[.int .i64 0, .int .i64 r]) (by simp [results, Tryz.results176, go_sem, r0, r1]) rfl ⟨rfl, Hok.u, ?_⟩
   exact (Hb1.u.setCell (by simp) _).setCell (by simp) _
 ·have e1 : opv (gE b pd cells k) (48, n) = (n, 0) := rfl
  rw [e1]
  unfold gV
  rw [gst_z0]
  simp only
  have Hok : Hid (ClOk (n, 0)) := .inl ⟨rfl, hin⟩
  clear e1 hn ho hin
  go_enter Tryz.func176, Tryz.ntmps176
  go_wp2_with fail
  try rw [hW]
  refine (of_any n _).mono ?_
  rintro e w1 ⟨rfl, hb⟩
  obtain ⟨r0, r1, z0, z1, lr⟩ := two_cells (HB2.u.kept hb)
  have Hb1 := hI (HbW.u.then' (by omega) hb)
  clear hb
  go_wp2_with fail
  refine bodyPost_ret (v := .agg #[.int .i64 0, .int .i64 n]) (by simp [results, Tryz.results176, go_sem, r0, r1]) rfl ⟨rfl, Hok.u, ?_⟩
  exact (Hb1.u.setCell (by simp) _).setCell (by simp) _
theorem info_kind : (Tryz.prog.info? 199).map (fun i => (i.zero, i.size, i.bytes)) = some (some (.int .i64 0), 1, 8) := by kernel_rfl
theorem own_pop2 {w : World} {B g cap : Nat} {e : TypeId} {q : List Int} {x y : Int} (h : w.ownsRow B e 1 (.slice (some ⟨g, 0, none⟩) (q.length + 2) cap) (q.length + 2) ((q ++ [x, y]).map (.int .i64))) (k : Int) :
  (w.setCell ⟨g, q.length, none⟩ (.int .i64 k)).ownsRow B e 1 (.slice (some ⟨g, 0, none⟩) (q.length + 1) cap) (q.length + 1) ((q ++ [k]).map (.int .i64)) := by
 obtain ⟨_, h2⟩ := h
 rcases h2 with ⟨h0, _⟩ | ⟨g', cap', cur, hv, hg, hh, hn, hcap, hsz, htake⟩
 ·cases h0
 ·cases hv
  refine ⟨by simp, .inr ⟨g, cap, cur.setIfInBounds q.length (.int .i64 k), rfl, hg, ?_, by omega, hcap, by simpa using hsz, ?_⟩⟩
  ·exact Blk.set hh q.length (.int .i64 k)
  ·rw [Array.toList_setIfInBounds]
   have h1 : (cur.toList.take ((q.length + 2) * 1)).take q.length = q.map (.int .i64) := by
    rw [htake]; simp
   rw [List.take_take, show min q.length ((q.length + 2) * 1) = q.length by omega] at h1
   rw [show (q.length + 1) * 1 = q.length + 1 by omega, List.take_succ_eq_append_getElem (by simp; omega)]
   rw [List.take_set_of_le (by omega), h1]
   simp
structure KLoop (w wr : World) (rows : List Int) (ps : List Pt) (j : Nat) (q : List Int) (vq : Value) : Prop where
 bit : ∀ x ∈ q, x = 0 ∨ x = 1
 dp : dpt (ps.drop j) q.length = some 1
 ev : kEval rows (ps.drop j) (q.reverse.map toR) = kEval rows ps []
 own : wr.ownsRow w.heap.size 199 1 vq q.length (q.map (.int .i64))
 bel : Below w.heap.size w wr
theorem drop_cons {ps : List Pt} {j : Nat} {p : Pt} (h : ps[j]? = some p) : ps.drop j = p :: ps.drop (j + 1) := by
 obtain ⟨hi, rfl⟩ := List.getElem?_eq_some_iff.1 h
 exact List.drop_eq_getElem_cons hi
theorem snoc2 (q : List Int) (h : 2 ≤ q.length) : ∃ r x y, q = r ++ [x, y] := by
 cases hq : q.reverse with
 | nil => simp at hq; subst hq; simp at h
 | cons y t =>
  cases t with
  | nil =>
   have := congrArg List.length hq
   simp at this
   omega
  | cons x t =>
   refine ⟨t.reverse, x, y, ?_⟩
   have := congrArg List.reverse hq
   simpa using this
theorem KLoop.opnd {w wr w' : World} {rows : List Int} {ps : List Pt} {j : Nat} {q : List Int} {vq vq' : Value} {p : Pt} (h : KLoop w wr rows ps j q vq) (hp : ps[j]? = some p) (ho : opdB p.1 = true) {k : Int} (hk : k = 0 ∨ k = 1) (hl : leafK rows p = toR k)
  (hown : w'.ownsRow w.heap.size 199 1 vq' (q.length + 1) (q.map (.int .i64) ++ [.int .i64 k])) (hb : Below w.heap.size w w') : KLoop w w' rows ps (j + 1) (q ++ [k]) vq' := by
 have hd := drop_cons hp
 refine ⟨?_, ?_, ?_, by simpa using hown, hb⟩
 ·intro x hx
  simp at hx
  rcases hx with hx | rfl
  ·exact h.bit x hx
  ·exact hk
 ·have := h.dp
  rw [hd] at this
  simp only [dpt, ho, if_true] at this
  simpa using this
 ·have := h.ev
  rw [hd] at this
  simp only [kEval, ho, if_true, hl] at this
  rw [← this]
  simp
theorem KLoop.neg {w wr w' : World} {rows : List Int} {ps : List Pt} {j : Nat} {q : List Int} {vq : Value} {p : Pt} (h : KLoop w wr rows ps j q vq) (hp : ps[j]? = some p) (ho : opdB p.1 = false) (h126 : p.1 = 126)
  (hown : w'.ownsRow w.heap.size 199 1 vq q.length (q.map (.int .i64))) (hb : Below w.heap.size w w') : KLoop w w' rows ps (j + 1) q vq := by
 have hd := drop_cons hp
 have e1 : (p.1 == 126) = true := by simp [h126]
 refine ⟨h.bit, ?_, ?_, hown, hb⟩
 ·have := h.dp
  rw [hd] at this
  simp only [dpt, ho, e1, if_true, Bool.false_eq_true, if_false] at this
  split at this
  ·exact this
  ·cases this
 ·have := h.ev
  rw [hd] at this
  simp only [kEval, ho, e1, if_true, Bool.false_eq_true, if_false] at this
  exact this
theorem KLoop.two {w wr : World} {rows : List Int} {ps : List Pt} {j : Nat} {q : List Int} {vq : Value} {p : Pt} (h : KLoop w wr rows ps j q vq) (hp : ps[j]? = some p) (ho : opdB p.1 = false) (h126 : ¬ p.1 = 126) : opB p.1 = true ∧ 2 ≤ q.length := by
 have hd := drop_cons hp
 have e1 : (p.1 == 126) = false := by simpa using h126
 have := h.dp
 rw [hd] at this
 simp only [dpt, ho, e1, Bool.false_eq_true, if_false] at this
 split at this
 ·rename_i hh; simpa using hh
 ·cases this
theorem KLoop.join {w wr w' : World} {rows : List Int} {ps : List Pt} {j : Nat} {q : List Int} {x y : Int} {vq vq' : Value} {p : Pt} (h : KLoop w wr rows ps j (q ++ [x, y]) vq) (hp : ps[j]? = some p) (ho : opB p.1 = true) (hok : (jk p.1 x y).2 = true)
  (hown : w'.ownsRow w.heap.size 199 1 vq' (q.length + 1) ((q ++ [(jk p.1 x y).1]).map (.int .i64))) (hb : Below w.heap.size w w') : KLoop w w' rows ps (j + 1) (q ++ [(jk p.1 x y).1]) vq' := by
 have hd := drop_cons hp
 have ho2 := opd_op ho
 have hj := jk_join p.1 x y ho (h.bit x (by simp)) (h.bit y (by simp))
 rw [hok, if_pos rfl] at hj
 refine ⟨?_, ?_, ?_, by simpa using hown, hb⟩
 ·intro z hz
  simp at hz
  rcases hz with hz | rfl
  ·exact h.bit z (by simp [hz])
  ·exact hj.2
 ·have := h.dp
  rw [hd] at this
  simp [dpt, ho2.1, ho2.2, ho] at this
  simpa using this
 ·have := h.ev
  rw [hd] at this
  simp [kEval, ho2.1, ho2.2] at this
  rw [← this, hj.1]
  simp
theorem KLoop.bad {w wr : World} {rows : List Int} {ps : List Pt} {j : Nat} {q : List Int} {x y : Int} {vq : Value} {p : Pt} (h : KLoop w wr rows ps j (q ++ [x, y]) vq) (hp : ps[j]? = some p) (ho : opB p.1 = true) (hok : (jk p.1 x y).2 = false) (hk : ∃ k, kEval rows ps [] = [k]) : kindP rows ps = 0 := by
 have hd := drop_cons hp
 have ho2 := opd_op ho
 have hj := jk_join p.1 x y ho (h.bit x (by simp)) (h.bit y (by simp))
 rw [hok, if_neg (by simp)] at hj
 obtain ⟨k, hk⟩ := hk
 have := h.ev
 rw [hd] at this
 simp [kEval, ho2.1, ho2.2, hj.1] at this
 have h0 := zero_stays rows (ps.drop (j + 1)) (0 :: (q.map toR).reverse) (by simp)
 rw [← List.map_reverse] at h0
 simp only [List.map_reverse] at h0 this
 rw [this, hk] at h0
 simp at h0
 unfold kindP
 rw [hk, ← h0]; rfl
theorem KLoop.done {w wr : World} {rows : List Int} {ps : List Pt} {j : Nat} {q : List Int} {vq : Value} (h : KLoop w wr rows ps j q vq) (hj : ps.length ≤ j) : ∃ x, q = [x] ∧ (x = 0 ∨ x = 1) ∧ kindP rows ps = toR x := by
 have hd := List.drop_eq_nil_of_le hj
 have h1 := h.dp
 rw [hd] at h1
 simp [dpt] at h1
 obtain ⟨x, rfl⟩ := List.length_eq_one_iff.1 h1
 refine ⟨x, rfl, h.bit x (by simp), ?_⟩
 have := h.ev
 rw [hd] at this
 unfold kindP
 rw [← this]; rfl
theorem rowKind_any (vp v : Value) (ps : List Pt) (ks : List Int) (B : Nat) (w : World) (hp : w.ownsRow B 197 2 vp ps.length (cellsP ps)) (hown : w.ownsRow B 199 1 v ks.length (ks.map (.int .i64)))
  (hks : ∀ x ∈ ks, x = 0 ∨ x = 1) (hn : ∀ p ∈ ps, oldB p.1 = true → 0 ≤ p.2 ∧ p.2.toNat < ks.length) (hdp : dpt ps 0 = some 1) (hk : ∃ k, kEval (ks.map toR) ps [] = [k]) (hpl : ps.length ≤ 200) :
  Calls Tryz.prog 130 #[.agg #[vp], v] w fun e w' => ∃ kp ok, e = .returned (.tuple #[.int .i64 kp, .bool ok]) ∧ (kp = 0 ∨ kp = 1) ∧ kindP (ks.map toR) ps = (bif ok then toR kp else 0) ∧ Below w.heap.size w w' := by
 obtain ⟨ii, hi, hz0, hz1, hz2⟩ := info_parts info_kind
 obtain ⟨aop, capp, rfl⟩ := oForm hp
 obtain ⟨aok, capk, rfl⟩ := oForm hown
 have Hp := hI hp
 have Ho := hI hown
 have Hks := hI hks
 have Hn := hI hn
 have Hk := hI hk
 have Hst : Hid (KLoop w (w.alloc (.cells #[.slice aop ps.length capp] 165)) (ks.map toR) ps 0 [] (.slice none 0 0)) := ⟨by simp, hdp, rfl, World.ownsRow_nil _ _ _ _, (Below.refl _ _).alloc (Nat.le_refl _) _⟩
 clear hp hown hks hn hk hdp
 go_enter Tryz.func130, Tryz.ntmps130
 go_wp2_with fail
 go_loopw [6, 15] (fun vq i wr => ∃ j : Nat, ∃ q : List Int, j ≤ ps.length ∧ i = .int .i64 j ∧ q.length ≤ j ∧ w.heap.size < wr.heap.size ∧ Hid (KLoop w wr (ks.map toR) ps j q vq)) (fun _ i _ => ps.length - (intOf i).toNat)
 case atStart => exact ⟨0, [], by omega, rfl, by simp, by simp, Hst.u⟩
 case round =>
  obtain ⟨j, q, hj, rfl, hq, hsz, Hl⟩ := hrel
  obtain ⟨aoq, capq, hvq⟩ := oForm Hl.u.own
  subst hvq
  by_cases hlt : j < ps.length
  ·obtain ⟨pj, hpj⟩ : ∃ pj, ps[j]? = some pj := ⟨ps[j], List.getElem?_eq_getElem hlt⟩
   obtain ⟨g2, _, e1, hg2, hg2'⟩ := oSome Hp.u (by omega)
   simp only [Value.slice.injEq, true_and] at e1
   obtain ⟨rfl, rfl⟩ := e1
   have hc := pair_get (fun p : Pt => Value.int .u8 p.1) (fun p => Value.int .i64 p.2) ps j pj hpj
   have hro := oBelow Hp.u Hl.u.bel
   have d1 := oCell hro (j := j * 2) hc.1
   have d2 := oCell hro (j := j * 2 + 1) hc.2
   have Hnj := hI (Hn.u pj (List.mem_of_getElem? hpj))
   have Hpj := hI hpj
   clear hro hc hpj
   obtain ⟨s, n⟩ := pj
   simp only at d1 d2 Hnj
   go_wp2_with fail
   refine (isOperand_any s n _).mono ?_
   rintro e w3 ⟨rfl, hb3⟩
   have f0 := hb3.cell (p := ⟨wr.heap.size, 0, none⟩) (by simp)
   have f1 := hb3.cell (p := ⟨wr.heap.size, 1, none⟩) (by simp)
   have hb3s := hb3.size
   simp at f0 f1 hb3s
   have Hb3 : Hid (Below w.heap.size w w3) := (Hl.u.bel.alloc (by omega) _).then' (by simp; omega) hb3
   have Hq3 := hI (oBelow (Hl.u.own.alloc _) hb3)
   clear hb3
   cases ho : opdB s with
   | true =>
    have Hoo := hI ho
    go_wp2_with fail
    refine (operandKind_any s n _ ks B _ (by exact oBelow Ho.u Hb3.u) Hks.u Hnj.u).mono ?_
    rintro e w4 ⟨kk, rfl, hkk, hleaf, hb4⟩
    have Hb4 := hI (Hb3.u.then' (by omega) hb4)
    have Hq4 := hI (oBelow Hq3.u hb4)
    have hb4s := hb4.size
    have Hleaf := hI hleaf
    have Hkk := hI hkk
    clear hb4 hleaf hkk
    go_wp2_with (first
     | (at_builtin; refine wpList_append_own _ rfl (.tmp 23) (.tmp 27) 198 rfl w.heap.size 199 ii (.int .i64 0) 1 8 Tryz.underlying198 hi hz0 hz1 hz2 rfl (by decide) (.slice aoq q.length capq) q.length _ rfl (Hq4.u.alloc _) ⟨w4.heap.size, 0, none⟩ 1 1 [.int .i64 kk] rfl rfl (cell_one_new _ _ _) (fun x hx => by simp at hx; subst hx; rfl) (by unfold maxLen; omega) (by omega) (by simp; omega) ?_; intro vq' w5 hown5 hgr5 _; obtain ⟨gf, cf, rfl, hgf, hgf'⟩ := oSome hown5 (Nat.succ_pos _)))
    have hb5 : Below w.heap.size w w5 := (Hb4.u.alloc (by omega) _).grown hgr5 (by simp; omega) (fun g hg => (Hq4.u.lt g hg).1)
    have Hl5 := hI (Hl.u.opnd Hpj.u Hoo.u Hkk.u Hleaf.u hown5 hb5)
    have hsz5 := hgr5.size
    simp at hsz5
    clear hown5 hgr5 hb5
    go_wp2_with fail
    go_roundw
    case rel => exact ⟨j + 1, q ++ [kk], by omega, by go_num, by simp; omega, by omega, Hl5.u⟩
    case measure => simp [intOf]; omega
   | false =>
    have Hoo := hI ho
    by_cases h126 : s = 126
    ·subst h126
     have Hl5 := hI (Hl.u.neg Hpj.u Hoo.u rfl Hq3.u Hb3.u)
     go_wp2_with fail
     go_roundw
     case rel => exact ⟨j + 1, q, by omega, by go_num, by omega, by omega, Hl5.u⟩
     case measure => simp [intOf]; omega
    ·have n126 : (s != 126) = true := by simp [bne, h126]
     have h2 := Hl.u.two Hpj.u Hoo.u h126
     obtain ⟨qq, x, y, rfl⟩ := snoc2 q h2.2
     have Hop := hI h2.1
     clear h126 h2
     have hlen : (qq ++ [x, y]).length = qq.length + 2 := by simp
     simp only [hlen] at Hq3 hq ⊢
     obtain ⟨gp, _, e1, hgp, hgp'⟩ := oSome Hq3.u (by omega)
     simp only [Value.slice.injEq, true_and] at e1
     obtain ⟨rfl, rfl⟩ := e1
     have p1 := oCell Hq3.u (j := qq.length) (u := .int .i64 x) (by simp)
     have p2 := oCell Hq3.u (j := qq.length + 1) (u := .int .i64 y) (by simp)
     have hx01 := Hl.u.bit x (by simp)
     have hy01 := Hl.u.bit y (by simp)
     have Hx01 := hI hx01
     have Hy01 := hI hy01
     have hz := oFrozen Hq3.u qq.length
     clear hlen hx01 hy01
     go_wp2_with fail
     go_quiet ((go_at_call 175; exact Calls.quiet_of_same (joinKinds_any s x y _ Hop.u Hx01.u Hy01.u)))
     cases hok : (jk s x y).2 with
     | false =>
      have Hbad := hI (Hl.u.bad Hpj.u Hop.u hok Hk.u)
      go_wp2_with fail
      go_ret2
      exact ⟨0, false, rfl, .inl rfl, Hbad.u, Hb3.u.drewN _⟩
     | true =>
      obtain ⟨kk, hkk⟩ : ∃ kk, (jk s x y).1 = kk := ⟨_, rfl⟩
      rw [hkk]
      have Hown5 := fun nn => own_pop2 (w := w3.drewN nn) Hq3.u kk
      have Hl5 : ∀ nn, KLoop w ((w3.drewN nn).setCell ⟨gp, qq.length, none⟩ (.int .i64 kk)) (ks.map toR) ps (j + 1) (qq ++ [kk]) (.slice (some ⟨gp, 0, none⟩) (qq.length + 1) capq) := by
       intro nn
       have := Hl.u.join Hpj.u Hop.u hok (by rw [hkk]; exact Hown5 nn) ((Hb3.u.drewN nn).setCell hgp _)
       rw [hkk] at this
       exact this
      have HL := hI Hl5
      have e2 : (qq.length : Int) + 2 - 1 = ((qq.length + 1 : Nat) : Int) := by omega
      have hcap : qq.length + 1 ≤ capq := by
       rcases Hq3.u.2 with ⟨h0, _⟩ | ⟨g', cap', cur, hv, _, _, hn, _⟩
       ·cases h0
       ·cases hv; omega
      rw [e2]
      clear hok hkk Hown5 Hl5 e2
      go_wp2_with fail
      go_roundw
      case rel =>
       refine ⟨j + 1, qq ++ [kk], by omega, by go_num, by simp; omega, by simp [World.setCell, World.drewN]; omega, ?_⟩
       exact HL.u _
      case measure => simp [intOf]; omega
  ·obtain ⟨x, rfl, hx, hkp⟩ := Hl.u.done (by omega)
   obtain ⟨g, _, e1, hg, hg'⟩ := oSome Hl.u.own (by simp)
   simp only [Value.slice.injEq, true_and] at e1
   obtain ⟨rfl, rfl⟩ := e1
   have c0 := oCell Hl.u.own (j := 0) rfl
   have Hx := hI hx
   have Hkp := hI hkp
   clear hx hkp
   go_wp2_with fail
   go_ret2
   exact ⟨x, true, rfl, Hx.u, Hkp.u, Hl.u.bel⟩
end Go.Proofs.YtdchbenfccofpaaGreatDoor
