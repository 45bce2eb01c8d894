/- Walks of the check: rowKind. -/
import Derived.Test.YtpcdkhmahbecaaaDoorChB
namespace Go.Proofs.YtpcdkhmahbecaaaDoor
open Go.RowKit Db

theorem info_kind : (Tryd.prog.info? 112).map (fun i => (i.zero, i.size, i.bytes)) = some (some (.int .i64 0), 1, 8) := by kernel_rfl

/-- The upper two of a pile give way to one. -/
theorem own_pop2 {w : World} {B g cap : Nat} {e : TypeId} {q : List Int} {x y : Int} (h : w.ownsRow B e 1 (.slice (some ⟨g, 0, none⟩) (q.length + 2) cap) (q.length + 2) ((q ++ [x, y]).map (.int .i64))) (k : Int) :
    (w.setCell ⟨g, q.length, none⟩ (.int .i64 k)).ownsRow B e 1 (.slice (some ⟨g, 0, none⟩) (q.length + 1) cap) (q.length + 1) ((q ++ [k]).map (.int .i64)) := by
  obtain ⟨_, h2⟩ := h
  rcases h2 with ⟨h0, _⟩ | ⟨g', cap', cur, hv, hg, hh, hn, hcap, hsz, htake⟩
  · cases h0
  · cases hv
    refine ⟨by simp, .inr ⟨g, cap, cur.setIfInBounds q.length (.int .i64 k), rfl, hg, ?_, by omega, hcap, by simpa using hsz, ?_⟩⟩
    · exact Blk.set hh q.length (.int .i64 k)
    · rw [Array.toList_setIfInBounds]
      have h1 : (cur.toList.take ((q.length + 2) * 1)).take q.length = q.map (.int .i64) := by
        rw [htake]; simp
      rw [List.take_take, show min q.length ((q.length + 2) * 1) = q.length by omega] at h1
      rw [show (q.length + 1) * 1 = q.length + 1 by omega, List.take_succ_eq_append_getElem (by simp; omega)]
      rw [List.take_set_of_le (by omega), h1]
      simp

/-- Where the loop over the parts stands. -/
structure KLoop (w wr : World) (rows : List Int) (ps : List Pt) (j : Nat) (q : List Int) (vq : Value) : Prop where
  bit : ∀ x ∈ q, x = 0 ∨ x = 1
  dp : dpt (ps.drop j) q.length = some 1
  ev : kEval rows (ps.drop j) (q.reverse.map toR) = kEval rows ps []
  own : wr.ownsRow w.heap.size 112 1 vq q.length (q.map (.int .i64))
  bel : Below w.heap.size w wr

theorem drop_cons {ps : List Pt} {j : Nat} {p : Pt} (h : ps[j]? = some p) : ps.drop j = p :: ps.drop (j + 1) := by
  obtain ⟨hi, rfl⟩ := List.getElem?_eq_some_iff.1 h
  exact List.drop_eq_getElem_cons hi
theorem snoc2 (q : List Int) (h : 2 ≤ q.length) : ∃ r x y, q = r ++ [x, y] := by
  cases hq : q.reverse with
  | nil => simp at hq; subst hq; simp at h
  | cons y t =>
    cases t with
    | nil =>
      have := congrArg List.length hq
      simp at this
      omega
    | cons x t =>
      refine ⟨t.reverse, x, y, ?_⟩
      have := congrArg List.reverse hq
      simpa using this

theorem KLoop.opnd {w wr w' : World} {rows : List Int} {ps : List Pt} {j : Nat} {q : List Int} {vq vq' : Value} {p : Pt} (h : KLoop w wr rows ps j q vq) (hp : ps[j]? = some p) (ho : opdB p.1 = true) {k : Int} (hk : k = 0 ∨ k = 1) (hl : leafK rows p = toR k)
    (hown : w'.ownsRow w.heap.size 112 1 vq' (q.length + 1) (q.map (.int .i64) ++ [.int .i64 k])) (hb : Below w.heap.size w w') : KLoop w w' rows ps (j + 1) (q ++ [k]) vq' := by
  have hd := drop_cons hp
  refine ⟨?_, ?_, ?_, by simpa using hown, hb⟩
  · intro x hx
    simp at hx
    rcases hx with hx | rfl
    · exact h.bit x hx
    · exact hk
  · have := h.dp
    rw [hd] at this
    simp only [dpt, ho, if_true] at this
    simpa using this
  · have := h.ev
    rw [hd] at this
    simp only [kEval, ho, if_true, hl] at this
    rw [← this]
    simp
theorem KLoop.neg {w wr w' : World} {rows : List Int} {ps : List Pt} {j : Nat} {q : List Int} {vq : Value} {p : Pt} (h : KLoop w wr rows ps j q vq) (hp : ps[j]? = some p) (ho : opdB p.1 = false) (h126 : p.1 = 126)
    (hown : w'.ownsRow w.heap.size 112 1 vq q.length (q.map (.int .i64))) (hb : Below w.heap.size w w') : KLoop w w' rows ps (j + 1) q vq := by
  have hd := drop_cons hp
  have e1 : (p.1 == 126) = true := by simp [h126]
  refine ⟨h.bit, ?_, ?_, hown, hb⟩
  · have := h.dp
    rw [hd] at this
    simp only [dpt, ho, e1, if_true, Bool.false_eq_true, if_false] at this
    split at this
    · exact this
    · cases this
  · have := h.ev
    rw [hd] at this
    simp only [kEval, ho, e1, if_true, Bool.false_eq_true, if_false] at this
    exact this
/-- At an operation there are two on the pile. -/
theorem KLoop.two {w wr : World} {rows : List Int} {ps : List Pt} {j : Nat} {q : List Int} {vq : Value} {p : Pt} (h : KLoop w wr rows ps j q vq) (hp : ps[j]? = some p) (ho : opdB p.1 = false) (h126 : ¬ p.1 = 126) : opB p.1 = true ∧ 2 ≤ q.length := by
  have hd := drop_cons hp
  have e1 : (p.1 == 126) = false := by simpa using h126
  have := h.dp
  rw [hd] at this
  simp only [dpt, ho, e1, Bool.false_eq_true, if_false] at this
  split at this
  · rename_i hh; simpa using hh
  · cases this
theorem KLoop.join {w wr w' : World} {rows : List Int} {ps : List Pt} {j : Nat} {q : List Int} {x y : Int} {vq vq' : Value} {p : Pt} (h : KLoop w wr rows ps j (q ++ [x, y]) vq) (hp : ps[j]? = some p) (ho : opB p.1 = true) (hok : (jk p.1 x y).2 = true)
    (hown : w'.ownsRow w.heap.size 112 1 vq' (q.length + 1) ((q ++ [(jk p.1 x y).1]).map (.int .i64))) (hb : Below w.heap.size w w') : KLoop w w' rows ps (j + 1) (q ++ [(jk p.1 x y).1]) vq' := by
  have hd := drop_cons hp
  have ho2 := opd_op ho
  have hj := jk_join p.1 x y ho (h.bit x (by simp)) (h.bit y (by simp))
  rw [hok, if_pos rfl] at hj
  refine ⟨?_, ?_, ?_, by simpa using hown, hb⟩
  · intro z hz
    simp at hz
    rcases hz with hz | rfl
    · exact h.bit z (by simp [hz])
    · exact hj.2
  · have := h.dp
    rw [hd] at this
    simp [dpt, ho2.1, ho2.2, ho] at this
    simpa using this
  · have := h.ev
    rw [hd] at this
    simp [kEval, ho2.1, ho2.2] at this
    rw [← this, hj.1]
    simp
theorem KLoop.bad {w wr : World} {rows : List Int} {ps : List Pt} {j : Nat} {q : List Int} {x y : Int} {vq : Value} {p : Pt} (h : KLoop w wr rows ps j (q ++ [x, y]) vq) (hp : ps[j]? = some p) (ho : opB p.1 = true) (hok : (jk p.1 x y).2 = false) (hk : ∃ k, kEval rows ps [] = [k]) : kindP rows ps = 0 := by
  have hd := drop_cons hp
  have ho2 := opd_op ho
  have hj := jk_join p.1 x y ho (h.bit x (by simp)) (h.bit y (by simp))
  rw [hok, if_neg (by simp)] at hj
  obtain ⟨k, hk⟩ := hk
  have := h.ev
  rw [hd] at this
  simp [kEval, ho2.1, ho2.2, hj.1] at this
  have h0 := zero_stays rows (ps.drop (j + 1)) (0 :: (q.map toR).reverse) (by simp)
  rw [← List.map_reverse] at h0
  simp only [List.map_reverse] at h0 this
  rw [this, hk] at h0
  simp at h0
  unfold kindP
  rw [hk, ← h0]; rfl
theorem KLoop.done {w wr : World} {rows : List Int} {ps : List Pt} {j : Nat} {q : List Int} {vq : Value} (h : KLoop w wr rows ps j q vq) (hj : ps.length ≤ j) : ∃ x, q = [x] ∧ (x = 0 ∨ x = 1) ∧ kindP rows ps = toR x := by
  have hd := List.drop_eq_nil_of_le hj
  have h1 := h.dp
  rw [hd] at h1
  simp [dpt] at h1
  obtain ⟨x, rfl⟩ := List.length_eq_one_iff.1 h1
  refine ⟨x, rfl, h.bit x (by simp), ?_⟩
  have := h.ev
  rw [hd] at this
  unfold kindP
  rw [← this]; rfl

set_option maxRecDepth 100000 in
set_option maxHeartbeats 4000000 in
theorem rowKind_any (vp v : Value) (ps : List Pt) (ks : List Int) (B : Nat) (w : World) (hp : w.ownsRow B 109 2 vp ps.length (cellsP ps)) (hown : w.ownsRow B 112 1 v ks.length (ks.map (.int .i64)))
    (hks : ∀ x ∈ ks, x = 0 ∨ x = 1) (hn : ∀ p ∈ ps, oldB p.1 = true → 0 ≤ p.2 ∧ p.2.toNat < ks.length) (hdp : dpt ps 0 = some 1) (hk : ∃ k, kEval (ks.map toR) ps [] = [k]) (hpl : ps.length ≤ 200) :
    Calls Tryd.prog 48 #[.agg #[vp], v] w fun e w' => ∃ kp ok, e = .returned (.tuple #[.int .i64 kp, .bool ok]) ∧ (kp = 0 ∨ kp = 1) ∧ kindP (ks.map toR) ps = (bif ok then toR kp else 0) ∧ Below w.heap.size w w' := by
  obtain ⟨ii, hi, hz0, hz1, hz2⟩ := info_parts info_kind
  obtain ⟨aop, capp, rfl⟩ := ownsRow_form hp
  obtain ⟨aok, capk, rfl⟩ := ownsRow_form hown
  have Hp := hide hp
  have Ho := hide hown
  have Hks := hide hks
  have Hn := hide hn
  have Hk := hide hk
  have Hst : Hid (KLoop w (w.alloc (.cells #[.slice aop ps.length capp] 74)) (ks.map toR) ps 0 [] (.slice none 0 0)) := ⟨by simp, hdp, rfl, World.ownsRow_nil _ _ _ _, (Below.refl _ _).alloc (Nat.le_refl _) _⟩
  clear hp hown hks hn hk hdp
  go_enter Tryd.func48, Tryd.ntmps48
  go_wp2_with fail
  go_loopw [6, 15] (fun vq i wr => ∃ j : Nat, ∃ q : List Int, j ≤ ps.length ∧ i = .int .i64 j ∧ q.length ≤ j ∧ w.heap.size < wr.heap.size ∧ Hid (KLoop w wr (ks.map toR) ps j q vq)) (fun _ i _ => ps.length - (intOf i).toNat)
  case atStart => exact ⟨0, [], by omega, rfl, by simp, by simp, unhide Hst⟩
  case round =>
    obtain ⟨j, q, hj, rfl, hq, hsz, Hl⟩ := hrel
    obtain ⟨aoq, capq, hvq⟩ := ownsRow_form (unhide Hl).own
    subst hvq
    by_cases hlt : j < ps.length
    · obtain ⟨pj, hpj⟩ : ∃ pj, ps[j]? = some pj := ⟨ps[j], List.getElem?_eq_getElem hlt⟩
      obtain ⟨g2, _, e1, hg2, hg2'⟩ := ownsRow_some (unhide Hp) (by omega)
      simp only [Value.slice.injEq, true_and] at e1
      obtain ⟨rfl, rfl⟩ := e1
      have hc := pair_get (fun p : Pt => Value.int .u8 p.1) (fun p => Value.int .i64 p.2) ps j pj hpj
      have hro := ownsRow_below (unhide Hp) (unhide Hl).bel
      have d1 := ownsRow_cell hro (j := j * 2) hc.1
      have d2 := ownsRow_cell hro (j := j * 2 + 1) hc.2
      have Hnj := hide (unhide Hn pj (List.mem_of_getElem? hpj))
      have Hpj := hide hpj
      clear hro hc hpj
      obtain ⟨s, n⟩ := pj
      simp only at d1 d2 Hnj
      go_wp2_with fail
      refine (isOperand_any s n _).mono ?_
      rintro e w3 ⟨rfl, hb3⟩
      have f0 := hb3.cell (p := ⟨wr.heap.size, 0, none⟩) (by simp)
      have f1 := hb3.cell (p := ⟨wr.heap.size, 1, none⟩) (by simp)
      have hb3s := hb3.size
      simp at f0 f1 hb3s
      have Hb3 : Hid (Below w.heap.size w w3) := ((unhide Hl).bel.alloc (by omega) _).then' (by simp; omega) hb3
      have Hq3 := hide (ownsRow_below ((unhide Hl).own.alloc _) hb3)
      clear hb3
      cases ho : opdB s with
      | true =>
        have Hoo := hide ho
        go_wp2_with fail
        refine (operandKind_any s n _ ks B _ (by exact ownsRow_below (unhide Ho) (unhide Hb3)) (unhide Hks) (unhide Hnj)).mono ?_
        rintro e w4 ⟨kk, rfl, hkk, hleaf, hb4⟩
        have Hb4 := hide ((unhide Hb3).then' (by omega) hb4)
        have Hq4 := hide (ownsRow_below (unhide Hq3) hb4)
        have hb4s := hb4.size
        have Hleaf := hide hleaf
        have Hkk := hide hkk
        clear hb4 hleaf hkk
        go_wp2_with (first
          | (at_builtin; refine wpList_append_own _ rfl (.tmp 23) (.tmp 27) 111 rfl w.heap.size 112 ii (.int .i64 0) 1 8 Tryd.underlying111 hi hz0 hz1 hz2 rfl (by decide) (.slice aoq q.length capq) q.length _ rfl ((unhide Hq4).alloc _) ⟨w4.heap.size, 0, none⟩ 1 1 [.int .i64 kk] rfl rfl (cell_one_new _ _ _) (fun x hx => by simp at hx; subst hx; rfl) (by unfold maxLen; omega) (by omega) (by simp; omega) ?_; intro vq' w5 hown5 hgr5 _; obtain ⟨gf, cf, rfl, hgf, hgf'⟩ := ownsRow_some hown5 (Nat.succ_pos _)))
        have hb5 : Below w.heap.size w w5 := ((unhide Hb4).alloc (by omega) _).grown hgr5 (by simp; omega) (fun g hg => ((unhide Hq4).lt g hg).1)
        have Hl5 := hide ((unhide Hl).opnd (unhide Hpj) (unhide Hoo) (unhide Hkk) (unhide Hleaf) hown5 hb5)
        have hsz5 := hgr5.size
        simp at hsz5
        clear hown5 hgr5 hb5
        go_wp2_with fail
        go_roundw
        case rel => exact ⟨j + 1, q ++ [kk], by omega, by go_num, by simp; omega, by omega, unhide Hl5⟩
        case measure => simp [intOf]; omega
      | false =>
        have Hoo := hide ho
        by_cases h126 : s = 126
        · subst h126
          have Hl5 := hide ((unhide Hl).neg (unhide Hpj) (unhide Hoo) rfl (unhide Hq3) (unhide Hb3))
          go_wp2_with fail
          go_roundw
          case rel => exact ⟨j + 1, q, by omega, by go_num, by omega, by omega, unhide Hl5⟩
          case measure => simp [intOf]; omega
        · have n126 : (s != 126) = true := by simp [bne, h126]
          have h2 := (unhide Hl).two (unhide Hpj) (unhide Hoo) h126
          obtain ⟨qq, x, y, rfl⟩ := snoc2 q h2.2
          have Hop := hide h2.1
          clear h126 h2
          have hlen : (qq ++ [x, y]).length = qq.length + 2 := by simp
          simp only [hlen] at Hq3 hq ⊢
          obtain ⟨gp, _, e1, hgp, hgp'⟩ := ownsRow_some (unhide Hq3) (by omega)
          simp only [Value.slice.injEq, true_and] at e1
          obtain ⟨rfl, rfl⟩ := e1
          have p1 := ownsRow_cell (unhide Hq3) (j := qq.length) (u := .int .i64 x) (by simp)
          have p2 := ownsRow_cell (unhide Hq3) (j := qq.length + 1) (u := .int .i64 y) (by simp)
          have hx01 := (unhide Hl).bit x (by simp)
          have hy01 := (unhide Hl).bit y (by simp)
          have Hx01 := hide hx01
          have Hy01 := hide hy01
          have hz := ownsRow_frozen (unhide Hq3) qq.length
          clear hlen hx01 hy01
          go_wp2_with fail
          go_quiet ((go_at_call 80; exact Calls.quiet_of_same (joinKinds_any s x y _ (unhide Hop) (unhide Hx01) (unhide Hy01))))
          cases hok : (jk s x y).2 with
          | false =>
            have Hbad := hide ((unhide Hl).bad (unhide Hpj) (unhide Hop) hok (unhide Hk))
            go_wp2_with fail
            go_ret2
            exact ⟨0, false, rfl, .inl rfl, unhide Hbad, (unhide Hb3).drewN _⟩
          | true =>
            obtain ⟨kk, hkk⟩ : ∃ kk, (jk s x y).1 = kk := ⟨_, rfl⟩
            rw [hkk]
            have Hown5 := fun nn => own_pop2 (w := w3.drewN nn) (unhide Hq3) kk
            have Hl5 : ∀ nn, KLoop w ((w3.drewN nn).setCell ⟨gp, qq.length, none⟩ (.int .i64 kk)) (ks.map toR) ps (j + 1) (qq ++ [kk]) (.slice (some ⟨gp, 0, none⟩) (qq.length + 1) capq) := by
              intro nn
              have := (unhide Hl).join (unhide Hpj) (unhide Hop) hok (by rw [hkk]; exact Hown5 nn) (((unhide Hb3).drewN nn).setCell hgp _)
              rw [hkk] at this
              exact this
            have HL := hide Hl5
            have e2 : (qq.length : Int) + 2 - 1 = ((qq.length + 1 : Nat) : Int) := by omega
            have hcap : qq.length + 1 ≤ capq := by
              rcases (unhide Hq3).2 with ⟨h0, _⟩ | ⟨g', cap', cur, hv, _, _, hn, _⟩
              · cases h0
              · cases hv; omega
            rw [e2]
            clear hok hkk Hown5 Hl5 e2
            go_wp2_with fail
            go_roundw
            case rel =>
              refine ⟨j + 1, qq ++ [kk], by omega, by go_num, by simp; omega, by simp [World.setCell, World.drewN]; omega, ?_⟩
              exact unhide HL _
            case measure => simp [intOf]; omega
    · obtain ⟨x, rfl, hx, hkp⟩ := (unhide Hl).done (by omega)
      obtain ⟨g, _, e1, hg, hg'⟩ := ownsRow_some (unhide Hl).own (by simp)
      simp only [Value.slice.injEq, true_and] at e1
      obtain ⟨rfl, rfl⟩ := e1
      have c0 := ownsRow_cell (unhide Hl).own (j := 0) rfl
      have Hx := hide hx
      have Hkp := hide hkp
      clear hx hkp
      go_wp2_with fail
      go_ret2
      exact ⟨x, true, rfl, unhide Hx, unhide Hkp, (unhide Hl).bel⟩

end Go.Proofs.YtpcdkhmahbecaaaDoor
