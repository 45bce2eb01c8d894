/- Reports: the document's strange; a cell as a text. Reports: the document's Report. Codes: words; the code of a row; the codes of a report. Codes: what the document reads off a word. Codes: the document's whole. -/
import Derived.Test.YtfancgphkcjgmaaGreatDoorU14
import Derived.Test.YtfancgphkcjgmaaGreatDoorU01
import Derived.Test.YtfancgphkcjgmaaGreatDoorU04
import Derived.Test.YtfancgphkcjgmaaGreatDoorU08
import Derived.Test.YtfancgphkcjgmaaGreatDoorU07
import Derived.Test.YtfancgphkcjgmaaGreatDoorU02
import Derived.Deep.LoopGhost
namespace Db
theorem dg2_stop {d : List UInt8} {m : Nat} (hm : m ≤ 2) (hd : ∀ c ∈ d.take m, digB c.toNat = true) (he : m = 2 ∨ d.length ≤ m ∨ ∃ c, d[m]? = some c ∧ digB c.toNat = false) : dg2 d = d.take m := by
  unfold dg2
  match m, hm, hd, he with
  | 0, _, _, he =>
    cases d with
    | nil => rfl
    | cons a r =>
      rcases he with he | he | ⟨c, hc, hn⟩
      · cases he
      · simp at he
      · simp at hc; subst hc; simp [hn]
  | 1, _, hd, he =>
    match d with
    | [] => rfl
    | [a] => have := hd a (by simp); simp [this]
    | a :: b :: r =>
      have h1 := hd a (by simp)
      rcases he with he | he | ⟨c, hc, hn⟩
      · cases he
      · simp at he
      · simp at hc; subst hc; simp [h1, hn]
  | 2, _, hd, _ =>
    match d with
    | [] => rfl
    | [a] => have := hd a (by simp); simp [this]
    | a :: b :: r =>
      have h1 := hd a (by simp)
      have h2 := hd b (by simp)
      simp [h1, h2]
end Db
namespace Go.Proofs.YtfancgphkcjgmaaGreatDoor
open Go.RowKit Db

/-- Names a row an account that the book does not have? -/
def notB (s : Bk) (n : Int) : Bool := !ther s n
theorem strg_step (q : Int → Bool) (t : ByteArray) (i : Nat) (h : i < t.size) : strg q ((L t).drop i) = ((selB (t[i].toNat : Int) && q (val (dg2 ((L t).drop (i + 1))))) || strg q ((L t).drop (i + 1))) := by
  rw [L_drop t i h]; rfl
theorem take_dig {t : ByteArray} {i m : Nat} (h : i + m < t.size) (hd : ∀ c ∈ ((L t).drop i).take m, digB c.toNat = true) (h0 : digB (t[i + m].toNat : Int) = true) : ∀ c ∈ ((L t).drop i).take (m + 1), digB c.toNat = true := by
  intro c hc
  rw [List.take_succ_eq_append_getElem (by rw [List.length_drop, L_length]; omega)] at hc
  simp only [List.mem_append, List.mem_singleton] at hc
  rcases hc with hc | rfl
  · exact hd c hc
  · rw [List.getElem_drop, L_get t (i + m) h]; exact h0

set_option maxRecDepth 100000 in
set_option maxHeartbeats 4000000 in
theorem strange_any (B p : Nat) (s : Bk) (t : ByteArray) (w : World) (h : Rfd w B p s) (hs : t.size ≤ 200) :
    Calls Tryz.prog 146 #[.pointer (some ⟨p, 0, none⟩), .string t] w fun e w' => e = .returned (.bool (strg (notB s) (L t))) ∧ Below w.heap.size w w' := by
  have Hth := hide (fun (n : Int) (wx : World) (hb : Below w.heap.size w wx) => there_any B p s n wx (h.kept hb))
  clear h
  go_enter Tryz.func146, Tryz.ntmps146
  go_wp2_with fail
  go_loopg [5] t.size (fun m i wr => ∃ j : Nat, j ≤ t.size ∧ m = t.size - j ∧ i = .int .i64 j ∧ Hid (strg (notB s) ((L t).drop j) = strg (notB s) (L t)) ∧ Hid (Below w.heap.size w wr))
  case atStart => exact ⟨0, by omega, rfl, rfl, rfl, Below.refl _ _⟩
  case round =>
    obtain ⟨j, hj, rfl, rfl, Ho, Hb⟩ := hrel
    by_cases hlt : j < t.size
    · have Hst := hide (strg_step (notB s) t j hlt)
      obtain ⟨sel, hsel⟩ : ∃ sel, selB (t[j].toNat : Int) = sel := ⟨_, rfl⟩
      have Hsel := hide hsel
      rw [hsel] at Hst
      clear hsel
      go_wp2_with fail
      refine (selector_any _ _).mono ?_
      rintro e w1 ⟨rfl, rfl⟩
      rw [unhide Hsel]
      cases sel with
      | false =>
        go_wp2_with fail
        go_roundg (t.size - (j + 1))
        case measure => omega
        case rel => exact ⟨j + 1, by omega, rfl, by go_num, by show _ = _; rw [← unhide Ho, unhide Hst]; simp, unhide Hb⟩
      | true =>
        go_wp2_with fail
        obtain ⟨W, hW⟩ : ∃ W, w1 = W := ⟨_, rfl⟩
        rw [hW] at Hb ⊢
        clear hW
        go_loopg [7] 2 (fun mm i wx => ∃ m : Nat, m ≤ 2 ∧ mm = 2 - m ∧ j + 1 + m ≤ t.size ∧ i = .int .i64 ((j + 1 + m : Nat) : Int) ∧ wx = W ∧ Hid (∀ c ∈ ((L t).drop (j + 1)).take m, digB c.toNat = true))
        case atStart => exact ⟨0, by omega, rfl, by omega, by go_num, rfl, (fun c hc => by simp at hc)⟩
        case round =>
          obtain ⟨m, hm, rfl, hle, rfl, rfl, Hd⟩ := hrel
          have HX : Hid ((m = 2 ∨ ((L t).drop (j + 1)).length ≤ m ∨ ∃ c, ((L t).drop (j + 1))[m]? = some c ∧ digB c.toNat = false) → val (L (t.extract (j + 1) (j + 1 + m))) = val (dg2 ((L t).drop (j + 1)))) := by
            intro hx
            rw [dg2_stop hm (unhide Hd) hx, L_extract, show j + 1 + m - (j + 1) = m by omega]
          have hes : (t.extract (j + 1) (j + 1 + m)).size ≤ 18 := by rw [← L_length, L_extract]; simp; omega
          have Hed := hide (dig_at (t := t.extract (j + 1) (j + 1 + m)) (l := ((L t).drop (j + 1)).take m) (by rw [L_extract, show j + 1 + m - (j + 1) = m by omega]) (unhide Hd))
          have hcase : (t.size ≤ j + 1 + m) ∨ (j + 1 + m < t.size ∧ m = 2) ∨ (∃ h : j + 1 + m < t.size, m < 2 ∧ t[j + 1 + m].toNat < 48) ∨ (∃ h : j + 1 + m < t.size, m < 2 ∧ 48 ≤ t[j + 1 + m].toNat ∧ 57 < t[j + 1 + m].toNat) ∨ (∃ h : j + 1 + m < t.size, m < 2 ∧ 48 ≤ t[j + 1 + m].toNat ∧ t[j + 1 + m].toNat ≤ 57) := by
            by_cases h1 : t.size ≤ j + 1 + m
            · exact .inl h1
            by_cases h2 : m = 2
            · exact .inr (.inl ⟨by omega, h2⟩)
            have h3 : j + 1 + m < t.size := by omega
            by_cases h4 : t[j + 1 + m].toNat < 48
            · exact .inr (.inr (.inl ⟨h3, by omega, h4⟩))
            by_cases h5 : 57 < t[j + 1 + m].toNat
            · exact .inr (.inr (.inr (.inl ⟨h3, by omega, by omega, h5⟩)))
            · exact .inr (.inr (.inr (.inr ⟨h3, by omega, by omega, by omega⟩)))
          have hkk : ((j + 1 + m : Nat) : Int) = (j : Int) + 1 + m := by omega
          rcases hcase with hx | ⟨hx, rfl⟩ | ⟨hx, hm2, h48⟩ | ⟨hx, hm2, h48, h57⟩ | ⟨hx, hm2, h48, h57⟩
          rotate_right
          · have Hd2 := hide (take_dig hx (unhide Hd) (by unfold digB; simp; omega))
            go_wp2_with fail
            go_roundg (2 - (m + 1))
            case measure => omega
            case rel => exact ⟨m + 1, by omega, rfl, by omega, by go_num, rfl, unhide Hd2⟩
          · have Hv := hide (unhide HX (.inr (.inl (by rw [List.length_drop, L_length]; omega))))
            clear HX Hd
            go_wp2_with fail
            refine (value_any _ _ hes (unhide Hed)).mono ?_
            rintro e w2 ⟨rfl, _, _, rfl⟩
            obtain ⟨v, hv⟩ : ∃ v, val (dg2 ((L t).drop (j + 1))) = v := ⟨_, rfl⟩
            rw [unhide Hv, hv]
            rw [hv] at Hst
            clear hv Hv
            go_wp2_with fail
            refine (unhide Hth v _ (unhide Hb)).mono ?_
            rintro e w3 ⟨rfl, rfl⟩
            cases hth : ther s v with
            | true =>
              rw [show notB s v = false by unfold notB; rw [hth]; rfl] at Hst
              go_wp2_with fail
              go_roundg (t.size - (j + 1))
              case measure => omega
              case rel => exact ⟨j + 1, by omega, rfl, by go_num, by show _ = _; rw [← unhide Ho, unhide Hst]; simp, unhide Hb⟩
            | false =>
              rw [show notB s v = true by unfold notB; rw [hth]; rfl] at Hst
              go_wp2_with fail
              go_ret
              exact ⟨retB' (by rw [← unhide Ho, unhide Hst]; simp), unhide Hb⟩
          · have Hv := hide (unhide HX (.inl rfl))
            clear HX Hd
            go_wp2_with fail
            refine (value_any _ _ hes (unhide Hed)).mono ?_
            rintro e w2 ⟨rfl, _, _, rfl⟩
            obtain ⟨v, hv⟩ : ∃ v, val (dg2 ((L t).drop (j + 1))) = v := ⟨_, rfl⟩
            rw [unhide Hv, hv]
            rw [hv] at Hst
            clear hv Hv
            go_wp2_with fail
            refine (unhide Hth v _ (unhide Hb)).mono ?_
            rintro e w3 ⟨rfl, rfl⟩
            cases hth : ther s v with
            | true =>
              rw [show notB s v = false by unfold notB; rw [hth]; rfl] at Hst
              go_wp2_with fail
              go_roundg (t.size - (j + 1))
              case measure => omega
              case rel => exact ⟨j + 1, by omega, rfl, by go_num, by show _ = _; rw [← unhide Ho, unhide Hst]; simp, unhide Hb⟩
            | false =>
              rw [show notB s v = true by unfold notB; rw [hth]; rfl] at Hst
              go_wp2_with fail
              go_ret
              exact ⟨retB' (by rw [← unhide Ho, unhide Hst]; simp), unhide Hb⟩
          · have Hv := hide (unhide HX (.inr (.inr ⟨t[j + 1 + m], by rw [List.getElem?_drop]; exact L_get? t _ hx, by unfold digB; simp; omega⟩)))
            clear HX Hd
            go_wp2_with fail
            refine (value_any _ _ hes (unhide Hed)).mono ?_
            rintro e w2 ⟨rfl, _, _, rfl⟩
            obtain ⟨v, hv⟩ : ∃ v, val (dg2 ((L t).drop (j + 1))) = v := ⟨_, rfl⟩
            rw [unhide Hv, hv]
            rw [hv] at Hst
            clear hv Hv
            go_wp2_with fail
            refine (unhide Hth v _ (unhide Hb)).mono ?_
            rintro e w3 ⟨rfl, rfl⟩
            cases hth : ther s v with
            | true =>
              rw [show notB s v = false by unfold notB; rw [hth]; rfl] at Hst
              go_wp2_with fail
              go_roundg (t.size - (j + 1))
              case measure => omega
              case rel => exact ⟨j + 1, by omega, rfl, by go_num, by show _ = _; rw [← unhide Ho, unhide Hst]; simp, unhide Hb⟩
            | false =>
              rw [show notB s v = true by unfold notB; rw [hth]; rfl] at Hst
              go_wp2_with fail
              go_ret
              exact ⟨retB' (by rw [← unhide Ho, unhide Hst]; simp), unhide Hb⟩
          · have Hv := hide (unhide HX (.inr (.inr ⟨t[j + 1 + m], by rw [List.getElem?_drop]; exact L_get? t _ hx, by unfold digB; simp; omega⟩)))
            clear HX Hd
            go_wp2_with fail
            refine (value_any _ _ hes (unhide Hed)).mono ?_
            rintro e w2 ⟨rfl, _, _, rfl⟩
            obtain ⟨v, hv⟩ : ∃ v, val (dg2 ((L t).drop (j + 1))) = v := ⟨_, rfl⟩
            rw [unhide Hv, hv]
            rw [hv] at Hst
            clear hv Hv
            go_wp2_with fail
            refine (unhide Hth v _ (unhide Hb)).mono ?_
            rintro e w3 ⟨rfl, rfl⟩
            cases hth : ther s v with
            | true =>
              rw [show notB s v = false by unfold notB; rw [hth]; rfl] at Hst
              go_wp2_with fail
              go_roundg (t.size - (j + 1))
              case measure => omega
              case rel => exact ⟨j + 1, by omega, rfl, by go_num, by show _ = _; rw [← unhide Ho, unhide Hst]; simp, unhide Hb⟩
            | false =>
              rw [show notB s v = true by unfold notB; rw [hth]; rfl] at Hst
              go_wp2_with fail
              go_ret
              exact ⟨retB' (by rw [← unhide Ho, unhide Hst]; simp), unhide Hb⟩
    · obtain rfl : j = t.size := by omega
      go_wp2_with fail
      go_ret
      exact ⟨retB' (by rw [← unhide Ho, L_drop_end t _ (Nat.le_refl _)]; rfl), unhide Hb⟩

/-- A cell as a text. -/
def cellT (c : Cl) : List UInt8 := if c.2 == 0 then Lib.itoa c.1 else [UInt8.ofNat c.2.toNat]
set_option maxRecDepth 100000 in
set_option maxHeartbeats 2000000 in
theorem refText_any (c : Cl) (w : World) (hc : ClOk c) :
    Calls Tryz.prog 147 #[clV c] w fun e w' => ∃ u : ByteArray, e = .returned (.string u) ∧ L u = cellT c ∧ u.size ≤ 21 ∧ Below w.heap.size w w' := by
  rcases hc with ⟨h0, hin⟩ | rfl | rfl
  · obtain ⟨a, b⟩ := c
    simp only at h0 hin
    subst h0
    unfold clV
    have hr := inR_iff.1 hin
    simp only
    clear hin
    go_enter Tryz.func147, Tryz.ntmps147
    go_wp2_with fail
    refine (number10_any a _ hr.1 hr.2).mono ?_
    rintro e w1 ⟨u, rfl, hu, hb⟩
    have Hu := hide hu
    have Hb : Hid (Below w.heap.size w w1) := ((Below.refl _ _).alloc (Nat.le_refl _) _).then' (by simp) hb
    clear hu hb
    go_wp2_with fail
    go_ret
    exact ⟨u, rfl, unhide Hu, itoa_size hr.1 hr.2 (unhide Hu), unhide Hb⟩
  · have hcv : (convert 167 9 (.slice (some ⟨w.heap.size + 1, 0, none⟩) 1 1)).run Tryz.prog ((w.alloc (.cells #[.int .i64 0, .int .u8 122] 124)).alloc (.cells #[.int .u8 122] 5)) = .ok (.string ⟨#[122]⟩) ((w.alloc (.cells #[.int .i64 0, .int .u8 122] 124)).alloc (.cells #[.int .u8 122] 5)) :=
      conv_one 122 _ _ (by simp)
    unfold clV
    simp only
    go_enter Tryz.func147, Tryz.ntmps147
    go_wp2_with fail
    go_ret
    exact ⟨_, rfl, rfl, by decide, ((Below.refl _ _).alloc (Nat.le_refl _) _).alloc (by simp) _⟩
  · have hcv : (convert 167 9 (.slice (some ⟨w.heap.size + 1, 0, none⟩) 1 1)).run Tryz.prog ((w.alloc (.cells #[.int .i64 0, .int .u8 111] 124)).alloc (.cells #[.int .u8 111] 5)) = .ok (.string ⟨#[111]⟩) ((w.alloc (.cells #[.int .i64 0, .int .u8 111] 124)).alloc (.cells #[.int .u8 111] 5)) :=
      conv_one 111 _ _ (by simp)
    unfold clV
    simp only
    go_enter Tryz.func147, Tryz.ntmps147
    go_wp2_with fail
    go_ret
    exact ⟨_, rfl, rfl, by decide, ((Below.refl _ _).alloc (Nat.le_refl _) _).alloc (by simp) _⟩
end Go.Proofs.YtfancgphkcjgmaaGreatDoor
namespace Db
/-- What stands ahead of the i-th text: those ahead of it, and a sign. -/
def jpre (sep : UInt8) (l : List (List UInt8)) (i : Nat) : List UInt8 := if i = 0 then [] else jn sep (l.take i) ++ [sep]
theorem jn_pre {sep : UInt8} {l : List (List UInt8)} {i : Nat} {x : List UInt8} (h : l[i]? = some x) : jn sep (l.take (i + 1)) = jpre sep l i ++ x := by
  unfold jpre
  by_cases hi : i = 0
  · subst hi; rw [if_pos rfl]; exact jn_one h
  · rw [if_neg hi, jn_more (by omega) h]; simp
theorem jpre_zero (sep : UInt8) (l : List (List UInt8)) : jpre sep l 0 = [] := rfl
theorem jpre_pos {sep : UInt8} {l : List (List UInt8)} {i : Nat} (h : 0 < i) : jpre sep l i = jn sep (l.take i) ++ [sep] := by unfold jpre; rw [if_neg (by omega)]
end Db
namespace Go.Proofs.YtfancgphkcjgmaaGreatDoor
open Go.RowKit Db

theorem size_app (a b : ByteArray) : (a ++ b).size = a.size + b.size := by rw [size_L, L_append, List.length_append, L_length, L_length]
def rowX (row : List Cl) : List (List UInt8) := row.map cellT
def rptX (cells : List (List Cl)) : List (List UInt8) := cells.map fun row => jn 44 (rowX row)
/-- A report's cells as a text. -/
def rptT (cells : List (List Cl)) : List UInt8 := jn 59 (rptX cells)
theorem outc_few {pd : List (Int × Int)} {pss : List (List Pt)} {er pl : Int} (h : outc pd pss = (er, pl)) (h0 : er = 0) : pd.length ≤ 4 ∧ pss.length ≤ 8 ∧ pl = 0 ∧ badN 0 pss < 0 := by
  subst h0
  unfold outc at h
  split at h
  · simp at h
  · split at h
    · simp at h
    · split at h
      · simp at h
      · split at h
        · simp at h
        · simp at h; omega
theorem rowW_of {t : ByteArray} {pd : List (List UInt8 × List UInt8)} {rows : List (List UInt8)} {pss : List (List Pt)} {ss : List ByteArray} {pl : Int} (hf : Db.Form (L t) pd rows pss) (ho : outc (pdv pd) pss = (0, pl)) (hss : ss.map L = rows) : ∀ (i : Nat) u ps, ss[i]? = some u → pss[i]? = some ps → RowW u ps i := by
  intro i u ps hu hps
  have hr : rows[i]? = some (L u) := by rw [← hss, List.getElem?_map, hu]; rfl
  have h := hf.row i (L u) ps hr hps
  refine ⟨h.wf, by rw [← L_length]; exact h.len, ?_⟩
  have h1 := badN_all pss 0 (by omega) (outc_few ho rfl).2.2.2 i ps hps
  exact nameB_lt h1 h.pos i (by omega)
theorem strg_of {t : ByteArray} {pd : List (List UInt8 × List UInt8)} {rows : List (List UInt8)} {pss : List (List Pt)} {ss : List ByteArray} (hf : Db.Form (L t) pd rows pss) (hss : ss.map L = rows) (q : Int → Bool) : ∀ (i : Nat) u ps, ss[i]? = some u → pss[i]? = some ps → strg q (L u) = selq q ps := by
  intro i u ps hu hps
  exact (hf.row i (L u) ps (by rw [← hss, List.getElem?_map, hu]; rfl) hps).sel q
theorem any_drop {α : Type} {f : α → Bool} {l : List α} {j : Nat} {x : α} (h : l[j]? = some x) : (l.drop j).any f = (f x || (l.drop (j + 1)).any f) := by
  obtain ⟨hi, rfl⟩ := List.getElem?_eq_some_iff.1 h
  rw [List.drop_eq_getElem_cons hi]; rfl
theorem shC_wid {s : Bk} {pd : List (Int × Int)} : ∀ (pss : List (List Pt)), ∀ row ∈ shC s pd pss, row.length = pd.length := by
  intro pss
  have key : ∀ (l : List (List Pt)) (acc : List (List Cl)), (∀ row ∈ acc, row.length = pd.length) → ∀ row ∈ l.foldl (fun cells ps => cells ++ [rowC s pd cells ps]) acc, row.length = pd.length := by
    intro l
    induction l with
    | nil => intro acc h; exact h
    | cons x t ih =>
      intro acc h
      rw [List.foldl_cons]
      refine ih _ ?_
      intro row hr
      simp at hr
      rcases hr with hr | rfl
      · exact h row hr
      · simp [rowC]
  exact key pss [] (by simp)

/-- What Report answers. -/
def RepIs (b : Bk) (s u : ByteArray) (er : Int) : Prop :=
  (200 < s.size ∧ er = 1 ∧ u = ⟨#[]⟩) ∨ (s.size ≤ 200 ∧ er = 2 ∧ 0 ≤ plc 0 0 0 0 (L s) ∧ u = ⟨#[]⟩) ∨
  (s.size ≤ 200 ∧ ∃ pd rows pss e0 pl, Db.Form (L s) pd rows pss ∧ outc (pdv pd) pss = (e0, pl) ∧ ((¬ e0 = 0 ∧ er = e0 ∧ u = ⟨#[]⟩) ∨ (e0 = 0 ∧ pss.any (selq (notB b)) = true ∧ er = 7 ∧ u = ⟨#[]⟩) ∨ (e0 = 0 ∧ pss.any (selq (notB b)) = false ∧ er = 0 ∧ L u = rptT (shC b (pdv pd) pss))))

set_option maxRecDepth 100000 in
set_option maxHeartbeats 8000000 in
theorem refReport_ok (B p : Nat) (b : Bk) (s : ByteArray) (w : World) (hs : s.size ≤ 200) (pd : List (List UInt8 × List UInt8)) (rows : List (List UInt8)) (pss : List (List Pt)) (pl : Int) (hf : Db.Form (L s) pd rows pss) (ho : outc (pdv pd) pss = (0, pl)) (h : Rfd w B p b) :
    Calls Tryz.prog 104 #[.pointer (some ⟨p, 0, none⟩), .string s] w fun e w' => ((pss.any (selq (notB b)) = true ∧ e = .returned (.tuple #[.string ⟨#[]⟩, .int .i64 7])) ∨ (pss.any (selq (notB b)) = false ∧ ∃ u, e = .returned (.tuple #[.string u, .int .i64 0]) ∧ L u = rptT (shC b (pdv pd) pss))) ∧ Below w.heap.size w w' := by
  have hfew := outc_few ho rfl
  have Hf := hide hf
  have Ho := hide ho
  have H := hide h
  clear hf ho h
  go_enter Tryz.func104, Tryz.ntmps104
  go_wp2_with fail
  refine (refRead_ok s _ hs pd rows pss (unhide Hf)).mono ?_
  rintro e w1 ⟨a1, n1, k1, a2, n2, k2, a3, n3, k3, er', pl', rfl, ho', hb, hsh⟩
  have hh := (unhide Ho).symm.trans ho'
  simp only [Prod.mk.injEq] at hh
  obtain ⟨rfl, rfl⟩ := hh
  obtain ⟨ss, hss, hsh⟩ := hsh rfl
  have hp4 : pd.length ≤ 4 := by have := hfew.1; simpa [pdv] using this
  have hlen : ss.length = pss.length := by rw [← (unhide Hf).len, ← hss, List.length_map]
  have hs8 : ss.length ≤ 8 := by rw [hlen]; exact hfew.2.1
  obtain rfl : n3 = ss.length := by obtain ⟨_, _, e1⟩ := ownsRow_form hsh.rr; cases e1; rfl
  have HrowW := hide (rowW_of (unhide Hf) (unhide Ho) hss)
  have Hstr := hide (strg_of (unhide Hf) hss (notB b))
  have hsz := hb.size
  obtain ⟨W, hW⟩ : ∃ W, w1.alloc (.cells #[.slice a1 n1 k1, .slice a2 n2 k2, .slice a3 ss.length k3] 114) = W := ⟨_, rfl⟩
  have HbW : Hid (Below w.heap.size w W) := by rw [← hW]; exact hb.alloc hsz _
  have HB : Hid (Blk W w1.heap.size #[.slice a1 n1 k1, .slice a2 n2 k2, .slice a3 ss.length k3] 114) := by rw [← hW]; exact Blk.new _ _ _
  have Hsh : Hid (SheetAt W w.heap.size (.slice a1 n1 k1) (.slice a2 n2 k2) (.slice a3 ss.length k3) pd ss) := by rw [← hW]; exact hsh.alloc _
  have hWs : W.heap.size = w1.heap.size + 1 := by rw [← hW]; simp
  have Hlen := hide hlen
  clear hb ho' hsh hss hlen
  go_wp2_with fail
  try rw [hW]
  clear hW
  go_loopg [9] ss.length (fun m i wr => ∃ j : Nat, j ≤ ss.length ∧ m = ss.length - j ∧ i = .int .i64 j ∧ Hid ((pss.drop j).any (selq (notB b)) = pss.any (selq (notB b))) ∧ Hid (Below W.heap.size W wr))
  case atStart => exact ⟨0, by omega, rfl, rfl, rfl, Below.refl _ _⟩
  case round =>
    obtain ⟨j, hj, rfl, rfl, Hany, Hbx⟩ := hrel
    have hszx := (unhide Hbx).size
    have HBx := hide ((unhide HB).kept (unhide Hbx))
    have b0 := (unhide HBx).cell 0
    have b1 := (unhide HBx).cell 1
    have b2 := (unhide HBx).cell 2
    simp only [List.getElem?_toArray, List.getElem?_cons_zero, List.getElem?_cons_succ] at b0 b1 b2
    have Hbw := hide ((unhide HbW).then' (unhide HbW).size (unhide Hbx))
    by_cases hlt : j < ss.length
    · obtain ⟨t, ht⟩ : ∃ t, ss[j]? = some t := ⟨ss[j], List.getElem?_eq_getElem hlt⟩
      obtain ⟨ps, hps⟩ : ∃ ps, pss[j]? = some ps := ⟨pss[j]'(by have := unhide Hlen; omega), List.getElem?_eq_getElem _⟩
      have hts := (unhide HrowW j t ps ht hps).sz
      have hst := unhide Hstr j t ps ht hps
      have Hdr := hide (any_drop (f := selq (notB b)) hps)
      have hshx := (unhide Hsh).kept (unhide Hbx)
      obtain ⟨gr, _, e1, hgr, hgr'⟩ := ownsRow_some hshx.rr (by omega)
      simp only [Value.slice.injEq, true_and] at e1
      obtain ⟨rfl, rfl⟩ := e1
      have ht' := ownsRow_cell hshx.rr (j := j) (u := .string t) (by rw [List.getElem?_map, ht]; rfl)
      have Hstg := hide (strange_any B p b t wr ((unhide H).kept (unhide Hbw)) hts)
      rw [hst] at Hstg
      obtain ⟨r, hr⟩ : ∃ r, selq (notB b) ps = r := ⟨_, rfl⟩
      rw [hr] at Hstg Hdr
      clear ht hps hst hshx hr
      go_wp2_with fail
      refine (unhide Hstg).mono ?_
      rintro e w2 ⟨rfl, hb2⟩
      have Hb2 := hide ((unhide Hbx).then' hszx hb2)
      have Hb2w := hide ((unhide Hbw).then' (unhide Hbw).size hb2)
      clear hb2 Hstg
      cases r with
      | true =>
        go_wp2_with fail
        go_ret2
        exact ⟨.inl ⟨by rw [← unhide Hany, unhide Hdr]; rfl, rfl⟩, unhide Hb2w⟩
      | false =>
        go_wp2_with fail
        go_roundg (ss.length - (j + 1))
        case measure => omega
        case rel => exact ⟨j + 1, by omega, rfl, by go_num, by show _ = _; rw [← unhide Hany, unhide Hdr]; simp, unhide Hb2⟩
    · obtain rfl : j = ss.length := by omega
      have Hno : Hid (pss.any (selq (notB b)) = false) := by show _ = _; rw [← unhide Hany, unhide Hlen, List.drop_length]; rfl
      have Hwk := hide (worked_any p w.heap.size B b pd ss pss _ _ _ wr ((unhide H).kept (unhide Hbw)) ((unhide Hsh).kept (unhide Hbx)) hp4 (unhide Hlen) hfew.2.1 (unhide HrowW))
      go_wp2_with fail
      refine (unhide Hwk).mono ?_
      rintro e w2 ⟨g, vc, vs, rfl, _, hg, hb2⟩
      have Hb2 := hide ((unhide Hbw).then' (unhide Hbw).size hb2)
      obtain ⟨cells, hcells⟩ : ∃ cells, shC b (pdv pd) pss = cells := ⟨_, rfl⟩
      have hcl : cells.length = pss.length := by rw [← hcells, shC_len]
      rw [hcells] at hg
      have Hcells := hide hcells
      have HG := hide hg
      obtain ⟨aoc, capc, rfl⟩ := ownsRow_form hg.cs.own
      have hvl : vs.length = cells.length := hg.cs.len
      have hc8 : cells.length ≤ 8 := hg.few.2
      have hsz2 := (unhide Hb2).size
      rw [hvl]
      clear hb2 hg hcells Hwk hcl
      go_wp2_with fail
      go_loopg [12, 13] cells.length (fun m tv i wx => ∃ j : Nat, ∃ u : ByteArray, j ≤ cells.length ∧ m = cells.length - j ∧ i = .int .i64 j ∧ tv = .string u ∧ u.size ≤ 100 * j ∧ Hid (L u = jn 59 ((rptX cells).take j)) ∧ Hid (Below w2.heap.size w2 wx))
      case atStart => exact ⟨0, ⟨#[]⟩, by omega, rfl, rfl, rfl, Nat.zero_le _, rfl, Below.refl _ _⟩
      case round =>
        obtain ⟨i, u, hi, rfl, rfl, rfl, hus, Hu, Hb3⟩ := hrel
        have hsz3 := (unhide Hb3).size
        by_cases hlt2 : i < cells.length
        · obtain ⟨row, hrow⟩ : ∃ row, cells[i]? = some row := ⟨cells[i], List.getElem?_eq_getElem hlt2⟩
          have hwid : row.length = pd.length := (unhide HG).wid row (List.mem_of_getElem? hrow)
          have Hok := hide ((unhide HG).ok row (List.mem_of_getElem? hrow))
          have HX : Hid ((rptX cells)[i]? = some (jn 44 (rowX row))) := by show _ = _; unfold rptX; rw [List.getElem?_map, hrow]; rfl
          obtain ⟨v, hv⟩ : ∃ v, vs[i]? = some v := ⟨vs[i]'(by omega), List.getElem?_eq_getElem _⟩
          have HR := hide ((unhide HG).cs.row i v row hv hrow)
          obtain ⟨aor, capr, rfl⟩ := ownsRow_form (unhide HR)
          obtain ⟨gc, _, e1, hgc, hgc'⟩ := ownsRow_some (unhide HG).cs.own (by omega)
          simp only [Value.slice.injEq] at e1
          obtain ⟨rfl, _, rfl⟩ := e1
          have Hd := hide (ownsRow_cell (by have := (unhide HG).cs.own; exact this) (j := i) hv)
          have Hin : Hid (∀ u1 : ByteArray, L u1 = jpre 59 (rptX cells) i → ∀ u2 : ByteArray, L u2 = jpre 59 (rptX cells) i ++ jn 44 (rowX row) → L u2 = jn 59 ((rptX cells).take (i + 1))) := by
            intro u1 h1 u2 h2
            rw [jn_pre (unhide HX), h2]
          have Hstart : Hid (∃ u1 : ByteArray, u1 = (if i = 0 then u else u ++ ⟨#[59]⟩) ∧ L u1 = jpre 59 (rptX cells) i ∧ u1.size ≤ 100 * i + 1) := by
            refine ⟨_, rfl, ?_, ?_⟩
            · by_cases h0 : i = 0
              · subst h0; rw [if_pos rfl, jpre_zero]; have := unhide Hu; simpa [jn] using this
              · rw [if_neg h0, L_append, unhide Hu, jpre_pos (by omega)]; rfl
            · by_cases h0 : i = 0
              · rw [if_pos h0]; omega
              · rw [if_neg h0, size_L, L_append, List.length_append, L_length]; show u.size + 1 ≤ _; omega
          obtain ⟨u1, hu1, hL1, hs1⟩ := unhide Hstart
          have HL1 := hide hL1
          clear Hstart hL1 hrow hv
          have hin : (i : Int) < (cells.length : Int) := by omega
          by_cases h0 : i = 0
          · have hpos : ¬ (0 : Int) < (i : Int) := by omega
            rw [if_pos h0] at hu1
            clear h0
            go_wp2_with fail
            obtain ⟨W3, hW3⟩ : ∃ W3, wr = W3 := ⟨_, rfl⟩
            rw [hW3] at Hb3 hsz3 ⊢
            clear hW3
            go_loopg [12, 14] pd.length (fun m tv iv wx => ∃ k : Nat, ∃ u : ByteArray, k ≤ pd.length ∧ m = pd.length - k ∧ iv = .int .i64 k ∧ tv = .string u ∧ u.size ≤ 810 + 22 * k ∧ Hid (u.size ≤ 100 * i + 1 + 22 * k) ∧ Hid (L u = jpre 59 (rptX cells) i ++ jn 44 ((rowX row).take k)) ∧ Hid (Below W3.heap.size W3 wx))
            case atStart => exact ⟨0, u, by omega, rfl, rfl, rfl, by rw [← hu1]; omega, (show _ ≤ _ from by rw [← hu1]; omega), (show _ = _ from by rw [← hu1, unhide HL1]; simp [jn]), Below.refl _ _⟩
            case round =>
              obtain ⟨k, u2, hk, rfl, rfl, rfl, hu2s, Hu2s, Hu2, Hb4⟩ := hrel
              have hsz4 := (unhide Hb4).size
              have Hbw4 := hide ((unhide Hb3).then' hsz3 (unhide Hb4))
              have dd := kept_cell' (unhide Hbw4) (unhide Hd)
              by_cases hlk : k < pd.length
              · obtain ⟨c, hc⟩ : ∃ c, row[k]? = some c := ⟨row[k]'(by omega), List.getElem?_eq_getElem _⟩
                have hro := ownsRow_below (unhide HR) (unhide Hbw4)
                obtain ⟨gr, _, e1, hgr, hgr'⟩ := ownsRow_some hro (by omega)
                simp only [Value.slice.injEq, true_and] at e1
                obtain ⟨rfl, rfl⟩ := e1
                have h2 := two_get (fun c : Cl => Value.int .i64 c.1) (fun c => Value.int .u8 c.2) row k c hc
                have d1 := ownsRow_cell hro (j := k * 2) h2.1
                have d2 := ownsRow_cell hro (j := k * 2 + 1) h2.2
                have Hoc := hide (unhide Hok c (List.mem_of_getElem? hc))
                have Hxc : Hid ((rowX row)[k]? = some (cellT c)) := by show _ = _; unfold rowX; rw [List.getElem?_map, hc]; rfl
                have Htx := hide (fun wx : World => refText_any c wx (unhide Hoc))
                obtain ⟨c1, c2⟩ := c
                unfold clV at Htx
                simp only at d1 d2 Htx
                have hkr : (k : Int) < (row.length : Int) := by omega
                clear hro h2 hc
                by_cases hk0 : k = 0
                · have hk1 : ¬ (0 : Int) < (k : Int) := by omega
                  have Hk0 := hide hk0
                  clear hk0
                  go_wp2_with fail
                  refine (unhide Htx _).mono ?_
                  rintro e w6 ⟨u6, rfl, hu6, hs6, hb6⟩
                  have Hu6 : Hid (L (u2 ++ u6) = jpre 59 (rptX cells) i ++ jn 44 ((rowX row).take (k + 1))) := by
                    show _ = _
                    rw [L_append, unhide Hu2, hu6, jn_pre (unhide Hxc), unhide Hk0, jpre_zero]; simp [jn]
                  have Hs6 : Hid ((u2 ++ u6).size ≤ 100 * i + 1 + 22 * (k + 1) ∧ (u2 ++ u6).size ≤ 810 + 22 * (k + 1)) := by
                    have := unhide Hu2s
                    show _ ∧ _
                    rw [size_L, L_append, List.length_append, L_length, L_length]; omega
                  have Hb6 := hide ((unhide Hb4).then' hsz4 hb6)
                  clear hu6 hb6
                  go_wp2_with fail
                  go_roundg (pd.length - (k + 1))
                  case measure => omega
                  case rel => exact ⟨k + 1, _, by omega, rfl, by go_num, rfl, (unhide Hs6).2, (unhide Hs6).1, unhide Hu6, unhide Hb6⟩
                · have hk1 : (0 : Int) < (k : Int) := by omega
                  go_wp2_with fail
                  refine (unhide Htx _).mono ?_
                  rintro e w6 ⟨u6, rfl, hu6, hs6, hb6⟩
                  have Hu6 : Hid (L (u2 ++ ⟨#[44]⟩ ++ u6) = jpre 59 (rptX cells) i ++ jn 44 ((rowX row).take (k + 1))) := by
                    show _ = _
                    rw [L_append, L_append, unhide Hu2, hu6, jn_pre (unhide Hxc), jpre_pos (sep := 44) (i := k) (by omega), show L ⟨#[44]⟩ = [44] from rfl]; simp
                  have Hs6 : Hid ((u2 ++ ⟨#[44]⟩ ++ u6).size ≤ 100 * i + 1 + 22 * (k + 1) ∧ (u2 ++ ⟨#[44]⟩ ++ u6).size ≤ 810 + 22 * (k + 1)) := by
                    have := unhide Hu2s
                    show _ ∧ _
                    rw [size_app, size_app]; show u2.size + 1 + u6.size ≤ _ ∧ u2.size + 1 + u6.size ≤ _; omega
                  have Hb6 := hide ((unhide Hb4).then' hsz4 hb6)
                  clear hu6 hb6
                  go_wp2_with fail
                  go_roundg (pd.length - (k + 1))
                  case measure => omega
                  case rel => exact ⟨k + 1, _, by omega, rfl, by go_num, rfl, (unhide Hs6).2, (unhide Hs6).1, unhide Hu6, unhide Hb6⟩
              · obtain rfl : k = pd.length := by omega
                have Hu7 : Hid (L u2 = jn 59 ((rptX cells).take (i + 1))) := unhide Hin _ (unhide HL1) u2 (by rw [unhide Hu2, List.take_of_length_le (by simp [rowX, hwid])])
                have hs7 : u2.size ≤ 100 * (i + 1) := by have := unhide Hu2s; omega
                go_wp2_with fail
                go_roundg (cells.length - (i + 1))
                case measure => omega
                case rel => exact ⟨i + 1, u2, by omega, rfl, by go_num, rfl, hs7, unhide Hu7, unhide Hbw4⟩
          · have hpos : (0 : Int) < (i : Int) := by omega
            have hposN : decide (0 < i) = true := by simp; omega
            rw [if_neg h0] at hu1
            clear h0
            go_wp2_with fail
            obtain ⟨W3, hW3⟩ : ∃ W3, wr = W3 := ⟨_, rfl⟩
            rw [hW3] at Hb3 hsz3 ⊢
            clear hW3
            go_loopg [12, 14] pd.length (fun m tv iv wx => ∃ k : Nat, ∃ u : ByteArray, k ≤ pd.length ∧ m = pd.length - k ∧ iv = .int .i64 k ∧ tv = .string u ∧ u.size ≤ 810 + 22 * k ∧ Hid (u.size ≤ 100 * i + 1 + 22 * k) ∧ Hid (L u = jpre 59 (rptX cells) i ++ jn 44 ((rowX row).take k)) ∧ Hid (Below W3.heap.size W3 wx))
            case atStart => exact ⟨0, (u ++ ⟨#[59]⟩), by omega, rfl, rfl, rfl, by rw [← hu1]; omega, (show _ ≤ _ from by rw [← hu1]; omega), (show _ = _ from by rw [← hu1, unhide HL1]; simp [jn]), Below.refl _ _⟩
            case round =>
              obtain ⟨k, u2, hk, rfl, rfl, rfl, hu2s, Hu2s, Hu2, Hb4⟩ := hrel
              have hsz4 := (unhide Hb4).size
              have Hbw4 := hide ((unhide Hb3).then' hsz3 (unhide Hb4))
              have dd := kept_cell' (unhide Hbw4) (unhide Hd)
              by_cases hlk : k < pd.length
              · obtain ⟨c, hc⟩ : ∃ c, row[k]? = some c := ⟨row[k]'(by omega), List.getElem?_eq_getElem _⟩
                have hro := ownsRow_below (unhide HR) (unhide Hbw4)
                obtain ⟨gr, _, e1, hgr, hgr'⟩ := ownsRow_some hro (by omega)
                simp only [Value.slice.injEq, true_and] at e1
                obtain ⟨rfl, rfl⟩ := e1
                have h2 := two_get (fun c : Cl => Value.int .i64 c.1) (fun c => Value.int .u8 c.2) row k c hc
                have d1 := ownsRow_cell hro (j := k * 2) h2.1
                have d2 := ownsRow_cell hro (j := k * 2 + 1) h2.2
                have Hoc := hide (unhide Hok c (List.mem_of_getElem? hc))
                have Hxc : Hid ((rowX row)[k]? = some (cellT c)) := by show _ = _; unfold rowX; rw [List.getElem?_map, hc]; rfl
                have Htx := hide (fun wx : World => refText_any c wx (unhide Hoc))
                obtain ⟨c1, c2⟩ := c
                unfold clV at Htx
                simp only at d1 d2 Htx
                have hkr : (k : Int) < (row.length : Int) := by omega
                clear hro h2 hc
                by_cases hk0 : k = 0
                · have hk1 : ¬ (0 : Int) < (k : Int) := by omega
                  have Hk0 := hide hk0
                  clear hk0
                  go_wp2_with fail
                  refine (unhide Htx _).mono ?_
                  rintro e w6 ⟨u6, rfl, hu6, hs6, hb6⟩
                  have Hu6 : Hid (L (u2 ++ u6) = jpre 59 (rptX cells) i ++ jn 44 ((rowX row).take (k + 1))) := by
                    show _ = _
                    rw [L_append, unhide Hu2, hu6, jn_pre (unhide Hxc), unhide Hk0, jpre_zero]; simp [jn]
                  have Hs6 : Hid ((u2 ++ u6).size ≤ 100 * i + 1 + 22 * (k + 1) ∧ (u2 ++ u6).size ≤ 810 + 22 * (k + 1)) := by
                    have := unhide Hu2s
                    show _ ∧ _
                    rw [size_L, L_append, List.length_append, L_length, L_length]; omega
                  have Hb6 := hide ((unhide Hb4).then' hsz4 hb6)
                  clear hu6 hb6
                  go_wp2_with fail
                  go_roundg (pd.length - (k + 1))
                  case measure => omega
                  case rel => exact ⟨k + 1, _, by omega, rfl, by go_num, rfl, (unhide Hs6).2, (unhide Hs6).1, unhide Hu6, unhide Hb6⟩
                · have hk1 : (0 : Int) < (k : Int) := by omega
                  go_wp2_with fail
                  refine (unhide Htx _).mono ?_
                  rintro e w6 ⟨u6, rfl, hu6, hs6, hb6⟩
                  have Hu6 : Hid (L (u2 ++ ⟨#[44]⟩ ++ u6) = jpre 59 (rptX cells) i ++ jn 44 ((rowX row).take (k + 1))) := by
                    show _ = _
                    rw [L_append, L_append, unhide Hu2, hu6, jn_pre (unhide Hxc), jpre_pos (sep := 44) (i := k) (by omega), show L ⟨#[44]⟩ = [44] from rfl]; simp
                  have Hs6 : Hid ((u2 ++ ⟨#[44]⟩ ++ u6).size ≤ 100 * i + 1 + 22 * (k + 1) ∧ (u2 ++ ⟨#[44]⟩ ++ u6).size ≤ 810 + 22 * (k + 1)) := by
                    have := unhide Hu2s
                    show _ ∧ _
                    rw [size_app, size_app]; show u2.size + 1 + u6.size ≤ _ ∧ u2.size + 1 + u6.size ≤ _; omega
                  have Hb6 := hide ((unhide Hb4).then' hsz4 hb6)
                  clear hu6 hb6
                  go_wp2_with fail
                  go_roundg (pd.length - (k + 1))
                  case measure => omega
                  case rel => exact ⟨k + 1, _, by omega, rfl, by go_num, rfl, (unhide Hs6).2, (unhide Hs6).1, unhide Hu6, unhide Hb6⟩
              · obtain rfl : k = pd.length := by omega
                have Hu7 : Hid (L u2 = jn 59 ((rptX cells).take (i + 1))) := unhide Hin _ (unhide HL1) u2 (by rw [unhide Hu2, List.take_of_length_le (by simp [rowX, hwid])])
                have hs7 : u2.size ≤ 100 * (i + 1) := by have := unhide Hu2s; omega
                go_wp2_with fail
                go_roundg (cells.length - (i + 1))
                case measure => omega
                case rel => exact ⟨i + 1, u2, by omega, rfl, by go_num, rfl, hs7, unhide Hu7, unhide Hbw4⟩
        · obtain rfl : i = cells.length := by omega
          have Hfin : Hid (L u = rptT (shC b (pdv pd) pss)) := by
            show _ = _
            rw [unhide Hu, unhide Hcells]
            unfold rptT
            rw [List.take_of_length_le (by simp [rptX])]
          go_wp2_with fail
          go_ret2
          exact ⟨.inr ⟨unhide Hno, u, rfl, unhide Hfin⟩, (unhide Hb2).then' hsz2 (unhide Hb3)⟩
end Go.Proofs.YtfancgphkcjgmaaGreatDoor
namespace Go.Proofs.YtfancgphkcjgmaaGreatDoor
open Go.RowKit Db

/-- A word of a code. -/
def wordC (p : Pt) : List UInt8 := if p.1 == 48 then Lib.itoa p.2 else if opdB p.1 then u8 p.1 :: Lib.itoa p.2 else [u8 p.1]
/-- The signs of parts. -/
def sgB (s : Int) : Bool := opdB s || opB s || s == 126
theorem sg_u8 {s : Int} (h : sgB s = true) : s = ((u8 s).toNat : Int) := by
  simp [sgB, opdB, opB, selB, oldB] at h
  rcases h with (((rfl | (rfl | rfl) | rfl) | rfl | rfl) | ((rfl | rfl) | rfl) | rfl) | rfl <;> rfl
theorem wordC_len {p : Pt} (h : inR p.2 = true) : (wordC p).length ≤ 22 := by
  have hr := inR_iff.1 h
  have := Lib.itoa_length_le p.2 hr.1 hr.2
  unfold wordC
  split
  · omega
  · split
    · rw [List.length_cons]; omega
    · simp

set_option maxRecDepth 100000 in
set_option maxHeartbeats 1000000 in
theorem cword_any (s n : Int) (w : World) (hs : sgB s = true) (hin : inR n = true) (ht : Tab w) :
    Calls Tryz.prog 126 #[.agg #[.int .u8 s, .int .i64 n]] w fun e w' => ∃ u : ByteArray, e = .returned (.string u) ∧ L u = wordC (s, n) ∧ u.size ≤ 22 ∧ Below w.heap.size w w' := by
  have hr := inR_iff.1 hin
  have Hlen := hide (wordC_len (p := (s, n)) hin)
  have Ht := hide ht
  by_cases h48 : s = 48
  · subst h48
    clear ht hs hin
    go_enter Tryz.func126, Tryz.ntmps126
    go_wp2_with fail
    refine (itoa_any n _ hr.1 hr.2 ((unhide Ht).below (by exact (Below.refl _ _).alloc (Nat.le_refl _) _))).mono ?_
    rintro e w1 ⟨u, rfl, hu, hb⟩
    have Hu := hide hu
    have Hb : Hid (Below w.heap.size w w1) := ((Below.refl _ _).alloc (Nat.le_refl _) _).then' (by simp) hb
    clear hu hb
    go_wp2_with fail
    go_ret
    exact ⟨u, rfl, unhide Hu, by rw [size_L, unhide Hu]; exact unhide Hlen, unhide Hb⟩
  · have n48 : (s == 48) = false := by simpa using h48
    obtain ⟨c, hc⟩ : ∃ c : UInt8, u8 s = c := ⟨_, rfl⟩
    have hss := sg_u8 hs
    rw [hc] at hss
    obtain ⟨o, ho⟩ : ∃ o, opdB s = o := ⟨_, rfl⟩
    have HW : Hid (wordC (s, n) = if o then c :: Lib.itoa n else [c]) := by show _ = _; unfold wordC; simp only [n48, ho, hc]; rfl
    have Hio := hide (fun wx : World => isOperand_any s n wx)
    rw [ho] at Hio
    have HL : Hid (∀ u : ByteArray, L u = wordC (s, n) → u.size ≤ 22) := fun u hu => by rw [size_L, hu]; exact unhide Hlen
    obtain ⟨wc, hwc⟩ : ∃ wc, wordC (s, n) = wc := ⟨_, rfl⟩
    rw [hwc] at HW HL ⊢
    clear h48 hs ht hin ho hc hwc Hlen
    subst hss
    go_enter Tryz.func126, Tryz.ntmps126
    go_wp2_with fail
    refine (signText_any c _).mono ?_
    rintro e w1 ⟨u1, rfl, hu1, hb1⟩
    have f0 := hb1.cell (p := ⟨w.heap.size, 0, none⟩) (by simp)
    have f1 := hb1.cell (p := ⟨w.heap.size, 1, none⟩) (by simp)
    have hb1s := hb1.size
    simp at f0 f1 hb1s
    have hs1 : u1.size ≤ 1 := by rw [size_L, hu1]; exact Nat.le_refl _
    have Hu1 := hide hu1
    have Hb1 : Hid (Below w.heap.size w w1) := ((Below.refl _ _).alloc (Nat.le_refl _) _).then' (by simp) hb1
    clear hu1 hb1
    go_wp2_with fail
    refine (unhide Hio _).mono ?_
    rintro e w2 ⟨rfl, hb2⟩
    have g1 := hb2.cell (p := ⟨w.heap.size, 1, none⟩) (by show w.heap.size < _; omega)
    rw [f1] at g1
    have hb2s := hb2.size
    have Hb2 := hide ((unhide Hb1).then hb2)
    clear hb2 f0 f1 Hio
    cases o with
    | true =>
      go_wp2_with fail
      refine (itoa_any n _ hr.1 hr.2 ((unhide Ht).below (unhide Hb2))).mono ?_
      rintro e w3 ⟨u3, rfl, hu3, hb3⟩
      have hs3 := itoa_size hr.1 hr.2 hu3
      have Hu3 := hide hu3
      have Hb3 := hide ((unhide Hb2).then hb3)
      clear hu3 hb3
      go_wp2_with fail
      go_ret
      have hL : L (u1 ++ u3) = wc := by rw [L_append, unhide Hu1, unhide Hu3, unhide HW]; rfl
      exact ⟨_, rfl, hL, unhide HL _ hL, unhide Hb3⟩
    | false =>
      go_wp2_with fail
      go_ret
      have hL : L u1 = wc := by rw [unhide Hu1, unhide HW]; rfl
      exact ⟨_, rfl, hL, unhide HL _ hL, unhide Hb2⟩

/-- The code of a row, in words. -/
def codT (ps : List Pt) : List UInt8 := jn 32 ((cod ps).reverse.map wordC)
def PtS (p : Pt) : Prop := sgB p.1 = true ∧ inR p.2 = true
theorem Cd.drop {w w' : World} {b : Nat} {v : Value} {ws : List Pt} (h : Cd w b v ws) (hb : Below w.heap.size w w') : Cd w' b v ws := h.below hb
theorem fold_take {ps : List Pt} {j : Nat} {p : Pt} (h : ps[j]? = some p) : (ps.take (j + 1)).foldl lay [] = lay ((ps.take j).foldl lay []) p := by
  rw [List.take_add_one, h]
  simp

set_option maxRecDepth 100000 in
set_option maxHeartbeats 8000000 in
theorem compileRow_any (vp : Value) (ps : List Pt) (B : Nat) (w : World) (hp : w.ownsRow B 191 2 vp ps.length (cellsP ps)) (hps : ∀ p ∈ ps, PtS p) (hpl : ps.length ≤ 200) (ht : Tab w) :
    Calls Tryz.prog 84 #[.agg #[vp]] w fun e w' => ∃ u : ByteArray, e = .returned (.string u) ∧ L u = codT ps ∧ u.size ≤ 4600 ∧ Below w.heap.size w w' := by
  obtain ⟨aop, capp, rfl⟩ := ownsRow_form hp
  have Hp := hide hp
  have Hall : Hid (∀ j, ∀ x ∈ (ps.take j).foldl lay [], PtS x) := fun j => all_cod (P := PtS) (fun v hv => ⟨rfl, hv⟩) _ (by simp) (fun x hx => hps x (List.mem_of_mem_take hx))
  have Hlen : Hid (∀ j, ((ps.take j).foldl lay []).length ≤ 200) := fun j => by
    have := len_cod (ps.take j) []
    have h2 := List.length_take_le' j ps
    simp only [List.length_nil] at this
    omega
  have Ht := hide ht
  have Hst : Hid (Cd ((w.alloc (.cells #[.slice aop ps.length capp] 155)).alloc (.cells #[.slice none 0 0] 198)) (w.heap.size + 1) (.slice none 0 0) []) := by
    refine ⟨?_, World.ownsRow_nil _ _ _ _⟩
    have := Blk.new (w.alloc (.cells #[.slice aop ps.length capp] 155)) #[.slice none 0 0] 198
    simpa using this
  clear hp hps ht
  go_enter Tryz.func84, Tryz.ntmps84
  go_wp2_with fail
  go_loopg [14] ps.length (fun m i wr => ∃ j : Nat, ∃ v, j ≤ ps.length ∧ m = ps.length - j ∧ i = .int .i64 j ∧ w.heap.size + 2 ≤ wr.heap.size ∧ Hid (Cd wr (w.heap.size + 1) v ((ps.take j).foldl lay []).reverse) ∧ Hid (Below w.heap.size w wr))
  case atStart => exact ⟨0, .slice none 0 0, by omega, rfl, rfl, by simp, unhide Hst, ((Below.refl _ _).alloc (Nat.le_refl _) _).alloc (by simp) _⟩
  case round =>
    obtain ⟨j, v, hj, rfl, rfl, hsz, HC, Hb⟩ := hrel
    by_cases hlt : j < ps.length
    · obtain ⟨⟨s, n⟩, hpj⟩ : ∃ p, ps[j]? = some p := ⟨ps[j], List.getElem?_eq_getElem hlt⟩
      obtain ⟨g2, _, e1, hg2, hg2'⟩ := ownsRow_some (unhide Hp) (by omega)
      simp only [Value.slice.injEq, true_and] at e1
      obtain ⟨rfl, rfl⟩ := e1
      have hc := two_get (fun p : Pt => Value.int .u8 p.1) (fun p => Value.int .i64 p.2) ps j (s, n) hpj
      have hro := ownsRow_below (unhide Hp) (unhide Hb)
      have d1 := ownsRow_cell hro (j := j * 2) hc.1
      have d2 := ownsRow_cell hro (j := j * 2 + 1) hc.2
      have Hft := hide (fold_take hpj)
      have Hlay : Hid (∀ o : Obj, Calls Tryz.prog 125 #[.pointer (some ⟨w.heap.size + 1, 0, none⟩), .agg #[.int .u8 s, .int .i64 n]] (wr.alloc o) fun e w' => e = .returned (.tuple #[]) ∧ (∃ v', Cd w' (w.heap.size + 1) v' ((ps.take (j + 1)).foldl lay []).reverse) ∧ Below (w.heap.size + 1) (wr.alloc o) w') := by
        intro o
        have h1 := unhide Hlen j
        have := lay_any (w.heap.size + 1) v _ s n (wr.alloc o) ((unhide HC).below ((Below.refl _ _).alloc (Nat.le_refl _) o)) (by rw [List.length_reverse]; omega) (fun x hx => (unhide Hall j x (by simpa using hx)).2)
        rw [List.reverse_reverse, ← unhide Hft] at this
        exact this
      simp only at d1 d2
      clear hro hc hpj
      go_wp2_with fail
      refine (unhide Hlay _).mono ?_
      rintro e w2 ⟨rfl, ⟨v', hc2⟩, hb2⟩
      have HC2 := hide hc2
      have Hb2 := hide (((unhide Hb).alloc (by omega) _).trans (hb2.mono (by omega)))
      have hsz2 := hb2.size
      simp at hsz2
      clear hc2 hb2 Hlay
      go_wp2_with fail
      go_roundg (ps.length - (j + 1))
      case measure => omega
      case rel => exact ⟨j + 1, v', by omega, rfl, by go_num, by omega, unhide HC2, unhide Hb2⟩
    · obtain rfl : j = ps.length := by omega
      have hal := unhide Hall ps.length
      have hln := unhide Hlen ps.length
      rw [List.take_length] at HC hal hln
      obtain ⟨ws, hws⟩ : ∃ ws, (ps.foldl lay []).reverse = ws := ⟨_, rfl⟩
      have Hws : Hid (codT ps = jn 32 (ws.map wordC)) := by show _ = _; unfold codT cod; rw [hws]
      have HA : Hid (∀ x ∈ ws, PtS x) := by intro x hx; rw [← hws] at hx; exact hal x (by simpa using hx)
      have hwl : ws.length ≤ 200 := by rw [← hws, List.length_reverse]; exact hln
      rw [hws] at HC
      obtain ⟨W, hW⟩ : ∃ W, wr = W := ⟨_, rfl⟩
      rw [hW] at HC Hb hsz ⊢
      obtain ⟨aow, capw, rfl⟩ := ownsRow_form (unhide HC).own
      have c0 := (unhide HC).blk.cell 0
      simp only [List.getElem?_toArray, List.getElem?_cons_zero] at c0
      clear hal hln hws hW
      go_wp2_with fail
      go_loopg [6, 27] ws.length (fun m tv i wx => ∃ k : Nat, ∃ u : ByteArray, k ≤ ws.length ∧ m = ws.length - k ∧ i = .int .i64 k ∧ tv = .string u ∧ u.size ≤ 23 * k ∧ Hid (L u = jn 32 ((ws.map wordC).take k)) ∧ Hid (Below W.heap.size W wx))
      case atStart => exact ⟨0, ⟨#[]⟩, by omega, rfl, rfl, rfl, Nat.zero_le _, rfl, Below.refl _ _⟩
      case round =>
        obtain ⟨k, u, hk, rfl, rfl, rfl, hus, Hu, Hbx⟩ := hrel
        have hszx := (unhide Hbx).size
        by_cases hlk : k < ws.length
        · obtain ⟨⟨s, n⟩, hpk⟩ : ∃ p, ws[k]? = some p := ⟨ws[k], List.getElem?_eq_getElem hlk⟩
          have hro := ownsRow_below (unhide HC).own (unhide Hbx)
          obtain ⟨g2, _, e1, hg2, hg2'⟩ := ownsRow_some hro (by omega)
          simp only [Value.slice.injEq, true_and] at e1
          obtain ⟨rfl, rfl⟩ := e1
          have hc := two_get (fun p : Pt => Value.int .u8 p.1) (fun p => Value.int .i64 p.2) ws k (s, n) hpk
          have d1 := ownsRow_cell hro (j := k * 2) hc.1
          have d2 := ownsRow_cell hro (j := k * 2 + 1) hc.2
          have hpt := unhide HA (s, n) (List.mem_of_getElem? hpk)
          have Hxc : Hid ((ws.map wordC)[k]? = some (wordC (s, n))) := by show _ = _; rw [List.getElem?_map, hpk]; rfl
          have hbw : Below w.heap.size w wr := (unhide Hb).then' (unhide Hb).size (unhide Hbx)
          have Hcw := hide (fun (o : Obj) => cword_any s n (wr.alloc o) hpt.1 hpt.2 ((unhide Ht).below (hbw.alloc hbw.size o)))
          simp only at d1 d2
          clear hro hc hpk hpt hbw
          by_cases hk0 : k = 0
          · have hk1 : ¬ (0 : Int) < (k : Int) := by omega
            have Hk0 := hide hk0
            clear hk0
            go_wp2_with fail
            refine (unhide Hcw _).mono ?_
            rintro e w6 ⟨u6, rfl, hu6, hs6, hb6⟩
            have Hu6 : Hid (L (u ++ u6) = jn 32 ((ws.map wordC).take (k + 1))) := by
              show _ = _
              rw [L_append, unhide Hu, hu6, jn_pre (unhide Hxc), unhide Hk0, jpre_zero]; simp [jn]
            have Hs6 : Hid ((u ++ u6).size ≤ 23 * (k + 1)) := by
              show _ ≤ _
              rw [size_app]; omega
            have Hb6 := hide (((unhide Hbx).alloc hszx _).then' (by simp; omega) hb6)
            clear hu6 hb6
            go_wp2_with fail
            go_roundg (ws.length - (k + 1))
            case measure => omega
            case rel => exact ⟨k + 1, _, by omega, rfl, by go_num, rfl, unhide Hs6, unhide Hu6, unhide Hb6⟩
          · have hk1 : (0 : Int) < (k : Int) := by omega
            go_wp2_with fail
            refine (unhide Hcw _).mono ?_
            rintro e w6 ⟨u6, rfl, hu6, hs6, hb6⟩
            have Hu6 : Hid (L (u ++ ⟨#[32]⟩ ++ u6) = jn 32 ((ws.map wordC).take (k + 1))) := by
              show _ = _
              rw [L_append, L_append, unhide Hu, hu6, jn_pre (unhide Hxc), jpre_pos (sep := 32) (i := k) (by omega), show L ⟨#[32]⟩ = [32] from rfl]
            have Hs6 : Hid ((u ++ ⟨#[32]⟩ ++ u6).size ≤ 23 * (k + 1)) := by
              show _ ≤ _
              rw [size_app, size_app]; show u.size + 1 + u6.size ≤ _; omega
            have Hb6 := hide (((unhide Hbx).alloc hszx _).then' (by simp; omega) hb6)
            clear hu6 hb6
            go_wp2_with fail
            go_roundg (ws.length - (k + 1))
            case measure => omega
            case rel => exact ⟨k + 1, _, by omega, rfl, by go_num, rfl, unhide Hs6, unhide Hu6, unhide Hb6⟩
        · obtain rfl : k = ws.length := by omega
          have Hfin : Hid (L u = codT ps) := by
            show _ = _
            rw [unhide Hu, unhide Hws, List.take_of_length_le (by simp)]
          go_wp2_with fail
          go_ret
          exact ⟨u, rfl, unhide Hfin, by omega, (unhide Hb).then' (unhide Hb).size (unhide Hbx)⟩

end Go.Proofs.YtfancgphkcjgmaaGreatDoor
namespace Db
open Go Go.Proofs.YtfancgphkcjgmaaGreatDoor

theorem valGo_app (l : List UInt8) (c : UInt8) : ∀ n, valGo n (l ++ [c]) = 10 * valGo n l + ((c.toNat : Int) - 48) := by
  induction l with
  | nil => intro n; rfl
  | cons x t ih => intro n; exact ih _
theorem ofNat_dig {d : Nat} (h : d < 10) : (UInt8.ofNat (48 + d)).toNat = 48 + d := by simp; omega
/-- The digits of a number. -/
theorem dec_facts (u : Nat) : (∀ c ∈ Lib.decDigits u, digB c.toNat = true) ∧ val (Lib.decDigits u) = u ∧ Lib.decDigits u ≠ [] ∧ (1 ≤ u → 10 ^ ((Lib.decDigits u).length - 1) ≤ u ∧ ∃ c t, Lib.decDigits u = c :: t ∧ ¬ c.toNat = 48) := by
  induction u using Nat.strongRecOn with
  | ind u ih =>
    by_cases h : u < 10
    · rw [Lib.decDigits_one h]
      have hd := ofNat_dig h
      refine ⟨?_, ?_, by simp, ?_⟩
      · intro c hc
        simp only [List.mem_singleton] at hc
        subst hc
        rw [hd]; unfold digB; simp; omega
      · show 10 * 0 + (((UInt8.ofNat (48 + u)).toNat : Int) - 48) = u
        rw [hd]; omega
      · intro h1
        refine ⟨by simpa using h1, _, [], rfl, ?_⟩
        rw [hd]; omega
    · obtain ⟨h1, h2, h3, h4⟩ := ih (u / 10) (by omega)
      obtain ⟨h5, c, t, h6, h7⟩ := h4 (by omega)
      have hd := ofNat_dig (d := u % 10) (by omega)
      have he : Lib.decDigits u = Lib.decDigits (u / 10) ++ [UInt8.ofNat (48 + u % 10)] := by rw [Lib.decDigits, dif_neg h]
      rw [he]
      refine ⟨?_, ?_, by simp, fun _ => ⟨?_, c, t ++ [UInt8.ofNat (48 + u % 10)], by rw [h6]; rfl, h7⟩⟩
      · intro x hx
        simp only [List.mem_append, List.mem_singleton] at hx
        rcases hx with hx | rfl
        · exact h1 x hx
        · rw [hd]; unfold digB; simp; omega
      · unfold val at h2 ⊢
        rw [valGo_app, h2, hd]; omega
      · have hl : 1 ≤ (Lib.decDigits (u / 10)).length := by rw [h6]; simp
        rw [List.length_append, List.length_singleton, Nat.add_sub_cancel]
        obtain ⟨m, hm⟩ : ∃ m, (Lib.decDigits (u / 10)).length = m + 1 := ⟨(Lib.decDigits (u / 10)).length - 1, by omega⟩
        rw [hm] at h5 ⊢
        rw [Nat.add_sub_cancel] at h5
        rw [Nat.pow_succ]
        omega
theorem dec_len {u : Nat} (h : u ≤ 9223372036854775808) : (Lib.decDigits u).length ≤ 19 := by
  by_cases h0 : u = 0
  · subst h0; rw [Lib.decDigits_one (by omega)]; decide
  · have h1 := ((dec_facts u).2.2.2 (by omega)).1
    rcases Nat.lt_or_ge 19 (Lib.decDigits u).length with h2 | h2
    · exfalso
      have h3 : 10 ^ 19 ≤ 10 ^ ((Lib.decDigits u).length - 1) := Nat.pow_le_pow_right (by omega) (by omega)
      have : (10 : Nat) ^ 19 = 10000000000000000000 := by decide
      omega
    · exact h2

/-- The digits of a word, behind a sign; whether it has one. -/
def negW (l : List UInt8) : Bool := match l with | c :: _ => c.toNat == 45 | [] => false
def dgW (l : List UInt8) : List UInt8 := if negW l then l.drop 1 else l
def badW (neg : Bool) (s : List UInt8) : Bool := match s with | [] => true | c :: t => decide (19 < s.length) || (c.toNat == 48 && (neg || !t.isEmpty))
/-- The whole number that a word is; false: it is none. -/
def whl (l : List UInt8) : Int × Bool :=
  if badW (negW l) (dgW l) then (0, false) else if (dgW l).all (fun c => digB c.toNat) then (IntKind.i64.wrap (sg (negW l) (val (dgW l)).toNat), inR (sg (negW l) (val (dgW l)).toNat)) else (0, false)
theorem whl_itoa {n : Int} (h : inR n = true) : whl (Lib.itoa n) = (n, true) := by
  have hr := inR_iff.1 h
  by_cases hn : n < 0
  · obtain ⟨u, hu⟩ : ∃ u : Nat, n = -(u : Int) := ⟨n.natAbs, by omega⟩
    subst hu
    rw [Lib.itoa_neg u (by omega)]
    obtain ⟨h1, h2, h3, h4⟩ := dec_facts u
    obtain ⟨_, c, t, h6, h7⟩ := h4 (by omega)
    have hl := dec_len (u := u) (by omega)
    have hneg : negW (45 :: Lib.decDigits u) = true := rfl
    have hdg : dgW (45 :: Lib.decDigits u) = Lib.decDigits u := by unfold dgW; rw [hneg]; rfl
    unfold whl
    rw [hneg, hdg, h2]
    have hb : badW true (Lib.decDigits u) = false := by
      rw [h6] at hl ⊢
      unfold badW
      simp only [List.length_cons] at hl ⊢
      have h8 : (c.toNat == 48) = false := by simpa using h7
      rw [h8]
      simp; omega
    have ha : ((Lib.decDigits u).all fun c => digB c.toNat) = true := by rw [List.all_eq_true]; exact fun c hc => h1 c hc
    rw [hb, ha]
    simp only [Bool.false_eq_true, if_false, if_true, Int.toNat_natCast]
    have hs : sg true u = -(u : Int) := rfl
    rw [hs, h, Go.Proofs.YtfancgphkcjgmaaGreatDoor.wrapIn h]
  · obtain ⟨u, rfl⟩ : ∃ u : Nat, n = (u : Int) := ⟨n.toNat, by omega⟩
    rw [Lib.itoa_nonneg]
    obtain ⟨h1, h2, h3, h4⟩ := dec_facts u
    have hl := dec_len (u := u) (by omega)
    obtain ⟨c, t, h6⟩ : ∃ c t, Lib.decDigits u = c :: t := by
      cases hd : Lib.decDigits u with
      | nil => exact absurd hd h3
      | cons c t => exact ⟨c, t, rfl⟩
    have hc := h1 c (by rw [h6]; simp)
    have hneg : negW (Lib.decDigits u) = false := by
      rw [h6]
      unfold negW
      simp only
      have := hc
      unfold digB at this
      simp at this
      simp; omega
    have hdg : dgW (Lib.decDigits u) = Lib.decDigits u := by unfold dgW; rw [hneg]; rfl
    unfold whl
    rw [hneg, hdg, h2]
    have hb : badW false (Lib.decDigits u) = false := by
      by_cases h0 : u = 0
      · subst h0; rw [Lib.decDigits_one (by omega)]; decide
      · obtain ⟨_, c', t', h6', h7⟩ := h4 (by omega)
        rw [h6'] at hl ⊢
        unfold badW
        simp only [List.length_cons] at hl ⊢
        have h8 : (c'.toNat == 48) = false := by simpa using h7
        rw [h8]
        simp; omega
    have ha : ((Lib.decDigits u).all fun c => digB c.toNat) = true := by rw [List.all_eq_true]; exact fun c hc => h1 c hc
    rw [hb, ha]
    simp only [Bool.false_eq_true, if_false, if_true, Int.toNat_natCast]
    have hs : sg false u = (u : Int) := rfl
    rw [hs, h, Go.Proofs.YtfancgphkcjgmaaGreatDoor.wrapIn h]
/-- A word that begins with no digit and no - is no number. -/
theorem whl_not {c : UInt8} {t : List UInt8} (h1 : digB c.toNat = false) (h2 : ¬ c.toNat = 45 ∨ t = []) : whl (c :: t) = (0, false) := by
  by_cases h : c.toNat = 45
  · obtain rfl : t = [] := by rcases h2 with h2 | h2; exact absurd h h2; exact h2
    unfold whl dgW negW
    simp [h, badW]
  · unfold whl
    have hneg : negW (c :: t) = false := by unfold negW; simpa using h
    have hdg : dgW (c :: t) = c :: t := by unfold dgW; rw [hneg]; rfl
    rw [hneg, hdg]
    split
    · rfl
    · rw [if_neg]
      rw [List.all_cons, h1]
      simp
end Db
namespace Go.Proofs.YtfancgphkcjgmaaGreatDoor
open Go.RowKit Db

theorem pow10_20 (k : Nat) (h : k ≤ 19) : pow10 k ≤ 10000000000000000000 := by
  have : pow10 19 = 10000000000000000000 := by decide
  have key : ∀ d j : Nat, j + d = 19 → pow10 j ≤ pow10 19 := by
    intro d
    induction d with
    | zero => intro j hj; rw [show j = 19 by omega]; exact Int.le_refl _
    | succ d ih => intro j hj; have := ih (j + 1) (by omega); rw [pow10_succ] at this; have := pow10_pos j; omega
  have := key (19 - k) k (by omega)
  omega
theorem pow10_19 (k : Nat) (h : k ≤ 18) : pow10 k ≤ 1000000000000000000 := by
  have h1 := pow10_20 (k + 1) (by omega)
  rw [pow10_succ] at h1
  omega
theorem notEmpty {s : ByteArray} (h : 0 < s.size) : s.toList.isEmpty = false := by
  rw [ByteArray.toList_eq]
  cases hl : s.data.toList with
  | nil =>
    have := L_length s
    unfold L at this
    rw [hl] at this
    simp at this
    omega
  | cons _ _ => rfl
theorem negW_at {t : ByteArray} (h : 0 < t.size) : negW (L t) = (t[0].toNat == 45) := by
  have := L_drop t 0 h
  rw [List.drop_zero] at this
  rw [this]; rfl
theorem badW_at {neg : Bool} {t : ByteArray} (h : 0 < t.size) : badW neg (L t) = (decide (19 < t.size) || (t[0].toNat == 48 && (neg || decide (1 < t.size)))) := by
  have h1 := L_drop t 0 h
  rw [List.drop_zero] at h1
  have h2 : ((L t).drop 1).isEmpty = !decide (1 < t.size) := by
    have hl : ((L t).drop 1).length = t.size - 1 := by rw [List.length_drop, L_length]
    cases hd : (L t).drop 1 with
    | nil =>
      rw [hd] at hl
      have : ¬ 1 < t.size := by simp at hl; omega
      simp [this]
    | cons a r =>
      rw [hd] at hl
      have : 1 < t.size := by simp at hl; omega
      simp [this]
  have h4 : badW neg (t[0] :: (L t).drop (0 + 1)) = (decide (19 < (t[0] :: (L t).drop (0 + 1)).length) || (t[0].toNat == 48 && (neg || !((L t).drop (0 + 1)).isEmpty))) := rfl
  rw [h1, h4, ← h1, L_length, Nat.zero_add, h2, Bool.not_not]

set_option maxRecDepth 100000 in
set_option maxHeartbeats 4000000 in
theorem whole_any (t : ByteArray) (w : World) (hs : t.size ≤ 10000) :
    Calls Tryz.prog 89 #[.string t] w fun e w' => e = .returned (.tuple #[.int .i64 (whl (L t)).1, .bool (whl (L t)).2]) ∧ w' = w := by
  by_cases h0 : t.size = 0
  · have he : t = ⟨#[]⟩ := L_inj (List.eq_nil_of_length_eq_zero (by rw [L_length]; exact h0))
    subst he
    have hr : whl (L ⟨#[]⟩) = (0, false) := rfl
    rw [hr]
    clear hr h0 hs
    go_enter Tryz.func89, Tryz.ntmps89
    go_wp2_with fail
    go_ret2
    exact ⟨rfl, rfl⟩
  have hz : 0 < t.size := by omega
  by_cases h45 : t[0].toNat = 45
  · have hneg : negW (L t) = true := by rw [negW_at hz]; simpa using h45
    have hdgw : dgW (L t) = L (t.extract 1 t.size) := by
      unfold dgW
      rw [hneg, if_pos rfl, L_extract]
      exact (List.take_of_length_le (by rw [List.length_drop, L_length]; omega)).symm
    have h45i : (t[0].toNat : Int) = 45 := by omega
    obtain ⟨s, hss⟩ : ∃ s, t.extract 1 t.size = s := ⟨_, rfl⟩
    rw [hss] at hdgw
    have hwh : whl (L t) = if badW true (L s) then (0, false) else if (L s).all (fun c => digB c.toNat) then (IntKind.i64.wrap (sg true (val (L s)).toNat), inR (sg true (val (L s)).toNat)) else (0, false) := by unfold whl; rw [hneg, hdgw]
    have hsz : s.size ≤ 10000 := by rw [← hss]; simp; omega
    obtain ⟨r, hr⟩ : ∃ r, whl (L t) = r := ⟨_, rfl⟩
    rw [hr] at hwh ⊢
    clear hr hneg hdgw h0
    by_cases hs0 : s.size = 0
    · have he : s = ⟨#[]⟩ := L_inj (List.eq_nil_of_length_eq_zero (by rw [L_length]; exact hs0))
      obtain rfl : r = (0, false) := by rw [hwh, he]; rfl
      subst he
      clear hwh hs0
      go_enter Tryz.func89, Tryz.ntmps89
      go_wp2_with fail
      go_ret2
      exact ⟨rfl, rfl⟩
    have hsp : 0 < s.size := by omega
    have hne := notEmpty hsp
    rw [badW_at hsp] at hwh
    by_cases h19 : 19 < s.size
    · obtain rfl : r = (0, false) := by rw [hwh]; simp [h19]
      clear hwh
      go_enter Tryz.func89, Tryz.ntmps89
      go_wp2_with fail
      go_ret2
      exact ⟨rfl, rfl⟩
    by_cases h48 : s[0].toNat = 48
    · obtain rfl : r = (0, false) := by rw [hwh]; simp [h48]
      have h48i : (s[0].toNat : Int) = 48 := by omega
      clear hwh
      go_enter Tryz.func89, Tryz.ntmps89
      go_wp2_with fail
      go_ret2
      exact ⟨rfl, rfl⟩
    · have h48i : ¬ (s[0].toNat : Int) = 48 := by omega
      have Hfin : Hid (∀ b : Bool, ((L s).all fun c => digB c.toNat) = b → r = if b then (IntKind.i64.wrap (sg true (val (L s)).toNat), inR (sg true (val (L s)).toNat)) else (0, false)) := by
        intro b hb
        rw [hwh, hb]
        have e48 : (s[0].toNat == 48) = false := by simpa using h48
        simp [h19, e48]
      clear hwh
      go_enter Tryz.func89, Tryz.ntmps89
      go_wp2_with fail
      go_loopg [6, 7] s.size (fun m tv i wr => ∃ k : Nat, ∃ x : Nat, k ≤ s.size ∧ m = s.size - k ∧ i = .int .i64 k ∧ tv = .int .u64 (x : Int) ∧ (x : Int) < pow10 k ∧ Hid (val (L s) = valGo (x : Int) ((L s).drop k)) ∧ Hid ((((L s).drop k).all fun c => digB c.toNat) = ((L s).all fun c => digB c.toNat)) ∧ wr = w)
      case atStart => exact ⟨0, 0, by omega, rfl, rfl, rfl, by decide, rfl, rfl, rfl⟩
      case round =>
        obtain ⟨k, x, hk, rfl, rfl, rfl, hx, Hv, Ha, rfl⟩ := hrel
        by_cases hlk : k < s.size
        · have hp := pow10_19 k (by omega)
          have hp2 := pow10_succ k
          have hdr := L_drop s k hlk
          obtain ⟨c, hc⟩ : ∃ c, s[k] = c := ⟨_, rfl⟩
          rw [hc] at hdr
          obtain ⟨dg, hdg⟩ : ∃ dg, digB (c.toNat : Int) = dg := ⟨_, rfl⟩
          have Hst : Hid ((((L s).drop k).all fun c => digB c.toNat) = (dg && (((L s).drop (k + 1)).all fun c => digB c.toNat))) := by
            show _ = _
            rw [hdr, List.all_cons, hdg]
          have Hvs : Hid (val (L s) = valGo (10 * (x : Int) + ((c.toNat : Int) - 48)) ((L s).drop (k + 1))) := by
            show _ = _
            rw [unhide Hv, hdr]; rfl
          have Hdc := hide (fun wx : World => digit_any (c.toNat : Int) wx)
          rw [hdg] at Hdc
          have hcn : s[k].toNat = c.toNat := by rw [hc]
          clear hdr
          cases dg with
          | false =>
            have hval : ((L s).all fun c => digB c.toNat) = false := by rw [← unhide Ha, unhide Hst]; rfl
            have Hr := hide (unhide Hfin false hval)
            clear hval hc hdg
            go_wp2_with fail
            refine (unhide Hdc _).mono ?_
            rintro e w1 ⟨rfl, rfl⟩
            go_wp2_with fail
            go_ret2
            rw [unhide Hr]
            exact ⟨rfl, rfl⟩
          | true =>
            have h48 : 48 ≤ c.toNat ∧ c.toNat ≤ 57 := by unfold digB at hdg; simp at hdg; omega
            have hx18 : (x : Int) ≤ 999999999999999999 := by omega
            have hw1 : IntKind.u64.wrap (10 * (x : Int)) = 10 * (x : Int) := wrapU (by omega) (by omega)
            have hw2 : IntKind.u64.wrap ((c.toNat : Int) - 48) = (c.toNat : Int) - 48 := wrapU (by omega) (by omega)
            have hw3 : IntKind.u64.wrap (10 * (x : Int) + ((c.toNat : Int) - 48)) = 10 * (x : Int) + ((c.toNat : Int) - 48) := wrapU (by omega) (by omega)
            have hw4 : IntKind.u8.wrap ((c.toNat : Int) - 48) = (c.toNat : Int) - 48 := by unfold IntKind.wrap; simp [IntKind.bits, IntKind.signed]; omega
            have Ha2 : Hid ((((L s).drop (k + 1)).all fun c => digB c.toNat) = ((L s).all fun c => digB c.toNat)) := by show _ = _; rw [← unhide Ha, unhide Hst]; rfl
            obtain ⟨y, hy⟩ : ∃ y : Nat, 10 * (x : Int) + ((c.toNat : Int) - 48) = y := ⟨(10 * (x : Int) + ((c.toNat : Int) - 48)).toNat, by omega⟩
            have Hv2 : Hid (val (L s) = valGo (y : Int) ((L s).drop (k + 1))) := by show _ = _; rw [← hy]; exact unhide Hvs
            have hyb : (y : Int) < pow10 (k + 1) := by omega
            clear hc hdg hp hp2 Hvs
            go_wp2_with fail
            refine (unhide Hdc _).mono ?_
            rintro e w1 ⟨rfl, rfl⟩
            go_wp2_with fail
            go_roundg (s.size - (k + 1))
            case measure => omega
            case rel => exact ⟨k + 1, y, by omega, rfl, by go_num, by first | rfl | rw [hy] | simp [hy], hyb, unhide Hv2, unhide Ha2, rfl⟩
        · obtain rfl : k = s.size := by omega
          have hxv : val (L s) = (x : Int) := by rw [unhide Hv, L_drop_end s _ (Nat.le_refl _)]; rfl
          have hall : ((L s).all fun c => digB c.toNat) = true := by rw [← unhide Ha, L_drop_end s _ (Nat.le_refl _)]; rfl
          have Hr := hide (unhide Hfin true hall)
          have hxm : x < 18446744073709551616 := by have := pow10_20 s.size (by omega); omega
          obtain ⟨z, hz⟩ : ∃ z, IntKind.i64.wrap (sg true x) = z := ⟨_, rfl⟩
          have Hsd := hide (fun wx : World => signed_det x true wx hxm z _ hz rfl)
          rw [hxv, Int.toNat_natCast] at Hr
          simp only [if_true] at Hr
          rw [hz] at Hr
          clear hxv hall hx hz
          go_wp2_with fail
          refine (unhide Hsd _).mono ?_
          rintro e w1 ⟨rfl, rfl⟩
          go_wp2_with fail
          go_ret2
          rw [unhide Hr]
          exact ⟨rfl, rfl⟩
  · have hneg : negW (L t) = false := by rw [negW_at hz]; simpa using h45
    have hdgw : dgW (L t) = L t := by unfold dgW; rw [hneg]; rfl
    have h45i : ¬ (t[0].toNat : Int) = 45 := by omega
    have hwh : whl (L t) = if badW false (L t) then (0, false) else if (L t).all (fun c => digB c.toNat) then (IntKind.i64.wrap (sg false (val (L t)).toNat), inR (sg false (val (L t)).toNat)) else (0, false) := by unfold whl; rw [hneg, hdgw]
    obtain ⟨r, hr⟩ : ∃ r, whl (L t) = r := ⟨_, rfl⟩
    rw [hr] at hwh ⊢
    have hne := notEmpty hz
    rw [badW_at hz] at hwh
    clear hr hneg hdgw h0
    by_cases h19 : 19 < t.size
    · obtain rfl : r = (0, false) := by rw [hwh]; simp [h19]
      clear hwh
      go_enter Tryz.func89, Tryz.ntmps89
      go_wp2_with fail
      go_ret2
      exact ⟨rfl, rfl⟩
    by_cases h48 : t[0].toNat = 48 ∧ 1 < t.size
    · obtain rfl : r = (0, false) := by rw [hwh]; simp [h48.1, h48.2]
      have h48i : (t[0].toNat : Int) = 48 := by omega
      have h481 := h48.2
      clear hwh
      go_enter Tryz.func89, Tryz.ntmps89
      go_wp2_with fail
      go_ret2
      exact ⟨rfl, rfl⟩
    · have Hfin : Hid (∀ b : Bool, ((L t).all fun c => digB c.toNat) = b → r = if b then (IntKind.i64.wrap (sg false (val (L t)).toNat), inR (sg false (val (L t)).toNat)) else (0, false)) := by
        intro b hb
        rw [hwh, hb]
        have e48 : (t[0].toNat == 48 && decide (1 < t.size)) = false := by
          by_cases h1 : t[0].toNat = 48
          · have : ¬ 1 < t.size := fun h2 => h48 ⟨h1, h2⟩
            simp [this]
          · have : (t[0].toNat == 48) = false := by simpa using h1
            rw [this]; rfl
        rw [Bool.false_or, e48]
        simp [h19]
      clear hwh
      by_cases h1 : t[0].toNat = 48
      · have h2 : ¬ 1 < t.size := fun h2 => h48 ⟨h1, h2⟩
        have h48i : (t[0].toNat : Int) = 48 := by omega
        clear h48
        go_enter Tryz.func89, Tryz.ntmps89
        go_wp2_with fail
        go_loopg [6, 7] t.size (fun m tv i wr => ∃ k : Nat, ∃ x : Nat, k ≤ t.size ∧ m = t.size - k ∧ i = .int .i64 k ∧ tv = .int .u64 (x : Int) ∧ (x : Int) < pow10 k ∧ Hid (val (L t) = valGo (x : Int) ((L t).drop k)) ∧ Hid ((((L t).drop k).all fun c => digB c.toNat) = ((L t).all fun c => digB c.toNat)) ∧ wr = w)
        case atStart => exact ⟨0, 0, by omega, rfl, rfl, rfl, by decide, rfl, rfl, rfl⟩
        case round =>
          obtain ⟨k, x, hk, rfl, rfl, rfl, hx, Hv, Ha, rfl⟩ := hrel
          by_cases hlk : k < t.size
          · have hp := pow10_19 k (by omega)
            have hp2 := pow10_succ k
            have hdr := L_drop t k hlk
            obtain ⟨c, hc⟩ : ∃ c, t[k] = c := ⟨_, rfl⟩
            rw [hc] at hdr
            obtain ⟨dg, hdg⟩ : ∃ dg, digB (c.toNat : Int) = dg := ⟨_, rfl⟩
            have Hst : Hid ((((L t).drop k).all fun c => digB c.toNat) = (dg && (((L t).drop (k + 1)).all fun c => digB c.toNat))) := by
              show _ = _
              rw [hdr, List.all_cons, hdg]
            have Hvs : Hid (val (L t) = valGo (10 * (x : Int) + ((c.toNat : Int) - 48)) ((L t).drop (k + 1))) := by
              show _ = _
              rw [unhide Hv, hdr]; rfl
            have Hdc := hide (fun wx : World => digit_any (c.toNat : Int) wx)
            rw [hdg] at Hdc
            have hcn : t[k].toNat = c.toNat := by rw [hc]
            clear hdr
            cases dg with
            | false =>
              have hval : ((L t).all fun c => digB c.toNat) = false := by rw [← unhide Ha, unhide Hst]; rfl
              have Hr := hide (unhide Hfin false hval)
              clear hval hc hdg
              go_wp2_with fail
              refine (unhide Hdc _).mono ?_
              rintro e w1 ⟨rfl, rfl⟩
              go_wp2_with fail
              go_ret2
              rw [unhide Hr]
              exact ⟨rfl, rfl⟩
            | true =>
              have h48 : 48 ≤ c.toNat ∧ c.toNat ≤ 57 := by unfold digB at hdg; simp at hdg; omega
              have hx18 : (x : Int) ≤ 999999999999999999 := by omega
              have hw1 : IntKind.u64.wrap (10 * (x : Int)) = 10 * (x : Int) := wrapU (by omega) (by omega)
              have hw2 : IntKind.u64.wrap ((c.toNat : Int) - 48) = (c.toNat : Int) - 48 := wrapU (by omega) (by omega)
              have hw3 : IntKind.u64.wrap (10 * (x : Int) + ((c.toNat : Int) - 48)) = 10 * (x : Int) + ((c.toNat : Int) - 48) := wrapU (by omega) (by omega)
              have hw4 : IntKind.u8.wrap ((c.toNat : Int) - 48) = (c.toNat : Int) - 48 := by unfold IntKind.wrap; simp [IntKind.bits, IntKind.signed]; omega
              have Ha2 : Hid ((((L t).drop (k + 1)).all fun c => digB c.toNat) = ((L t).all fun c => digB c.toNat)) := by show _ = _; rw [← unhide Ha, unhide Hst]; rfl
              obtain ⟨y, hy⟩ : ∃ y : Nat, 10 * (x : Int) + ((c.toNat : Int) - 48) = y := ⟨(10 * (x : Int) + ((c.toNat : Int) - 48)).toNat, by omega⟩
              have Hv2 : Hid (val (L t) = valGo (y : Int) ((L t).drop (k + 1))) := by show _ = _; rw [← hy]; exact unhide Hvs
              have hyb : (y : Int) < pow10 (k + 1) := by omega
              clear hc hdg hp hp2 Hvs
              go_wp2_with fail
              refine (unhide Hdc _).mono ?_
              rintro e w1 ⟨rfl, rfl⟩
              go_wp2_with fail
              go_roundg (t.size - (k + 1))
              case measure => omega
              case rel => exact ⟨k + 1, y, by omega, rfl, by go_num, by first | rfl | rw [hy] | simp [hy], hyb, unhide Hv2, unhide Ha2, rfl⟩
          · obtain rfl : k = t.size := by omega
            have hxv : val (L t) = (x : Int) := by rw [unhide Hv, L_drop_end t _ (Nat.le_refl _)]; rfl
            have hall : ((L t).all fun c => digB c.toNat) = true := by rw [← unhide Ha, L_drop_end t _ (Nat.le_refl _)]; rfl
            have Hr := hide (unhide Hfin true hall)
            have hxm : x < 18446744073709551616 := by have := pow10_20 t.size (by omega); omega
            obtain ⟨z, hz⟩ : ∃ z, IntKind.i64.wrap (sg false x) = z := ⟨_, rfl⟩
            have Hsd := hide (fun wx : World => signed_det x false wx hxm z _ hz rfl)
            rw [hxv, Int.toNat_natCast] at Hr
            simp only [if_true] at Hr
            rw [hz] at Hr
            clear hxv hall hx hz
            go_wp2_with fail
            refine (unhide Hsd _).mono ?_
            rintro e w1 ⟨rfl, rfl⟩
            go_wp2_with fail
            go_ret2
            rw [unhide Hr]
            exact ⟨rfl, rfl⟩
      · have h48i : ¬ (t[0].toNat : Int) = 48 := by omega
        clear h48
        go_enter Tryz.func89, Tryz.ntmps89
        go_wp2_with fail
        go_loopg [6, 7] t.size (fun m tv i wr => ∃ k : Nat, ∃ x : Nat, k ≤ t.size ∧ m = t.size - k ∧ i = .int .i64 k ∧ tv = .int .u64 (x : Int) ∧ (x : Int) < pow10 k ∧ Hid (val (L t) = valGo (x : Int) ((L t).drop k)) ∧ Hid ((((L t).drop k).all fun c => digB c.toNat) = ((L t).all fun c => digB c.toNat)) ∧ wr = w)
        case atStart => exact ⟨0, 0, by omega, rfl, rfl, rfl, by decide, rfl, rfl, rfl⟩
        case round =>
          obtain ⟨k, x, hk, rfl, rfl, rfl, hx, Hv, Ha, rfl⟩ := hrel
          by_cases hlk : k < t.size
          · have hp := pow10_19 k (by omega)
            have hp2 := pow10_succ k
            have hdr := L_drop t k hlk
            obtain ⟨c, hc⟩ : ∃ c, t[k] = c := ⟨_, rfl⟩
            rw [hc] at hdr
            obtain ⟨dg, hdg⟩ : ∃ dg, digB (c.toNat : Int) = dg := ⟨_, rfl⟩
            have Hst : Hid ((((L t).drop k).all fun c => digB c.toNat) = (dg && (((L t).drop (k + 1)).all fun c => digB c.toNat))) := by
              show _ = _
              rw [hdr, List.all_cons, hdg]
            have Hvs : Hid (val (L t) = valGo (10 * (x : Int) + ((c.toNat : Int) - 48)) ((L t).drop (k + 1))) := by
              show _ = _
              rw [unhide Hv, hdr]; rfl
            have Hdc := hide (fun wx : World => digit_any (c.toNat : Int) wx)
            rw [hdg] at Hdc
            have hcn : t[k].toNat = c.toNat := by rw [hc]
            clear hdr
            cases dg with
            | false =>
              have hval : ((L t).all fun c => digB c.toNat) = false := by rw [← unhide Ha, unhide Hst]; rfl
              have Hr := hide (unhide Hfin false hval)
              clear hval hc hdg
              go_wp2_with fail
              refine (unhide Hdc _).mono ?_
              rintro e w1 ⟨rfl, rfl⟩
              go_wp2_with fail
              go_ret2
              rw [unhide Hr]
              exact ⟨rfl, rfl⟩
            | true =>
              have h48 : 48 ≤ c.toNat ∧ c.toNat ≤ 57 := by unfold digB at hdg; simp at hdg; omega
              have hx18 : (x : Int) ≤ 999999999999999999 := by omega
              have hw1 : IntKind.u64.wrap (10 * (x : Int)) = 10 * (x : Int) := wrapU (by omega) (by omega)
              have hw2 : IntKind.u64.wrap ((c.toNat : Int) - 48) = (c.toNat : Int) - 48 := wrapU (by omega) (by omega)
              have hw3 : IntKind.u64.wrap (10 * (x : Int) + ((c.toNat : Int) - 48)) = 10 * (x : Int) + ((c.toNat : Int) - 48) := wrapU (by omega) (by omega)
              have hw4 : IntKind.u8.wrap ((c.toNat : Int) - 48) = (c.toNat : Int) - 48 := by unfold IntKind.wrap; simp [IntKind.bits, IntKind.signed]; omega
              have Ha2 : Hid ((((L t).drop (k + 1)).all fun c => digB c.toNat) = ((L t).all fun c => digB c.toNat)) := by show _ = _; rw [← unhide Ha, unhide Hst]; rfl
              obtain ⟨y, hy⟩ : ∃ y : Nat, 10 * (x : Int) + ((c.toNat : Int) - 48) = y := ⟨(10 * (x : Int) + ((c.toNat : Int) - 48)).toNat, by omega⟩
              have Hv2 : Hid (val (L t) = valGo (y : Int) ((L t).drop (k + 1))) := by show _ = _; rw [← hy]; exact unhide Hvs
              have hyb : (y : Int) < pow10 (k + 1) := by omega
              clear hc hdg hp hp2 Hvs
              go_wp2_with fail
              refine (unhide Hdc _).mono ?_
              rintro e w1 ⟨rfl, rfl⟩
              go_wp2_with fail
              go_roundg (t.size - (k + 1))
              case measure => omega
              case rel => exact ⟨k + 1, y, by omega, rfl, by go_num, by first | rfl | rw [hy] | simp [hy], hyb, unhide Hv2, unhide Ha2, rfl⟩
          · obtain rfl : k = t.size := by omega
            have hxv : val (L t) = (x : Int) := by rw [unhide Hv, L_drop_end t _ (Nat.le_refl _)]; rfl
            have hall : ((L t).all fun c => digB c.toNat) = true := by rw [← unhide Ha, L_drop_end t _ (Nat.le_refl _)]; rfl
            have Hr := hide (unhide Hfin true hall)
            have hxm : x < 18446744073709551616 := by have := pow10_20 t.size (by omega); omega
            obtain ⟨z, hz⟩ : ∃ z, IntKind.i64.wrap (sg false x) = z := ⟨_, rfl⟩
            have Hsd := hide (fun wx : World => signed_det x false wx hxm z _ hz rfl)
            rw [hxv, Int.toNat_natCast] at Hr
            simp only [if_true] at Hr
            rw [hz] at Hr
            clear hxv hall hx hz
            go_wp2_with fail
            refine (unhide Hsd _).mono ?_
            rintro e w1 ⟨rfl, rfl⟩
            go_wp2_with fail
            go_ret2
            rw [unhide Hr]
            exact ⟨rfl, rfl⟩

end Go.Proofs.YtfancgphkcjgmaaGreatDoor
