/- Reports: the document's strange; a cell as a text. Reports: the document's Report. The digits of a number. Reports as texts that a law builds: a form is one; operands as rows. Days and periods that a law picks; what all accounts together come to. An account is its own lines and the accounts below it. Cells of a report as numbers: split. Cells of a report as numbers: number. Reports: the program's sheet: how it lies; its small functions. -/
import Derived.Test.YtdchbenfccofpaaGreatDoorJ16
import Derived.Test.YtdchbenfccofpaaGreatDoorJ01
import Derived.Test.YtdchbenfccofpaaGreatDoorJ04
import Derived.Lib.ItoaLen
import Derived.Lib.ItoaNum
import Derived.Lib.ItoaMem
import Derived.Test.YtdchbenfccofpaaGreatDoorJ10
import Derived.Test.YtdchbenfccofpaaGreatDoorJ08
import Derived.Deep.LoopGhost
import Derived.Test.YtdchbenfccofpaaGreatDoorJ03
namespace Db
theorem dg2_stop {d : List UInt8} {m : Nat} (hm : m ≤ 2) (hd : ∀ c ∈ d.take m, digB c.toNat = true) (he : m = 2 ∨ d.length ≤ m ∨ ∃ c, d[m]? = some c ∧ digB c.toNat = false) : dg2 d = d.take m := by
  unfold dg2
  match m, hm, hd, he with
  | 0, _, _, he =>
    cases d with
    | nil => rfl
    | cons a r =>
      rcases he with he | he | ⟨c, hc, hn⟩
      · cases he
      · simp at he
      · simp at hc; subst hc; simp [hn]
  | 1, _, hd, he =>
    match d with
    | [] => rfl
    | [a] => have := hd a (by simp); simp [this]
    | a :: b :: r =>
      have h1 := hd a (by simp)
      rcases he with he | he | ⟨c, hc, hn⟩
      · cases he
      · simp at he
      · simp at hc; subst hc; simp [h1, hn]
  | 2, _, hd, _ =>
    match d with
    | [] => rfl
    | [a] => have := hd a (by simp); simp [this]
    | a :: b :: r =>
      have h1 := hd a (by simp)
      have h2 := hd b (by simp)
      simp [h1, h2]
end Db
namespace Go.Proofs.YtdchbenfccofpaaGreatDoor
open Go.RowKit Db

/-- Names a row an account that the book does not have? -/
def notB (s : Bk) (n : Int) : Bool := !ther s n
theorem strg_step (q : Int → Bool) (t : ByteArray) (i : Nat) (h : i < t.size) : strg q ((L t).drop i) = ((selB (t[i].toNat : Int) && q (val (dg2 ((L t).drop (i + 1))))) || strg q ((L t).drop (i + 1))) := by
  rw [L_drop t i h]; rfl
theorem take_dig {t : ByteArray} {i m : Nat} (h : i + m < t.size) (hd : ∀ c ∈ ((L t).drop i).take m, digB c.toNat = true) (h0 : digB (t[i + m].toNat : Int) = true) : ∀ c ∈ ((L t).drop i).take (m + 1), digB c.toNat = true := by
  intro c hc
  rw [List.take_succ_eq_append_getElem (by rw [List.length_drop, L_length]; omega)] at hc
  simp only [List.mem_append, List.mem_singleton] at hc
  rcases hc with hc | rfl
  · exact hd c hc
  · rw [List.getElem_drop, L_get t (i + m) h]; exact h0

set_option maxRecDepth 100000 in
set_option maxHeartbeats 4000000 in
theorem strange_any (B p : Nat) (s : Bk) (t : ByteArray) (w : World) (h : Rfd w B p s) (hs : t.size ≤ 200) :
    Calls Tryz.prog 166 #[.pointer (some ⟨p, 0, none⟩), .string t] w fun e w' => e = .returned (.bool (strg (notB s) (L t))) ∧ Below w.heap.size w w' := by
  have Hth := hide (fun (n : Int) (wx : World) (hb : Below w.heap.size w wx) => there_any B p s n wx (h.kept hb))
  clear h
  go_enter Tryz.func166, Tryz.ntmps166
  go_wp2_with fail
  go_loopg [5] t.size (fun m i wr => ∃ j : Nat, j ≤ t.size ∧ m = t.size - j ∧ i = .int .i64 j ∧ Hid (strg (notB s) ((L t).drop j) = strg (notB s) (L t)) ∧ Hid (Below w.heap.size w wr))
  case atStart => exact ⟨0, by omega, rfl, rfl, rfl, Below.refl _ _⟩
  case round =>
    obtain ⟨j, hj, rfl, rfl, Ho, Hb⟩ := hrel
    by_cases hlt : j < t.size
    · have Hst := hide (strg_step (notB s) t j hlt)
      obtain ⟨sel, hsel⟩ : ∃ sel, selB (t[j].toNat : Int) = sel := ⟨_, rfl⟩
      have Hsel := hide hsel
      rw [hsel] at Hst
      clear hsel
      go_wp2_with fail
      refine (selector_any _ _).mono ?_
      rintro e w1 ⟨rfl, rfl⟩
      rw [unhide Hsel]
      cases sel with
      | false =>
        go_wp2_with fail
        go_roundg (t.size - (j + 1))
        case measure => omega
        case rel => exact ⟨j + 1, by omega, rfl, by go_num, by show _ = _; rw [← unhide Ho, unhide Hst]; simp, unhide Hb⟩
      | true =>
        go_wp2_with fail
        obtain ⟨W, hW⟩ : ∃ W, w1 = W := ⟨_, rfl⟩
        rw [hW] at Hb ⊢
        clear hW
        go_loopg [7] 2 (fun mm i wx => ∃ m : Nat, m ≤ 2 ∧ mm = 2 - m ∧ j + 1 + m ≤ t.size ∧ i = .int .i64 ((j + 1 + m : Nat) : Int) ∧ wx = W ∧ Hid (∀ c ∈ ((L t).drop (j + 1)).take m, digB c.toNat = true))
        case atStart => exact ⟨0, by omega, rfl, by omega, by go_num, rfl, (fun c hc => by simp at hc)⟩
        case round =>
          obtain ⟨m, hm, rfl, hle, rfl, rfl, Hd⟩ := hrel
          have HX : Hid ((m = 2 ∨ ((L t).drop (j + 1)).length ≤ m ∨ ∃ c, ((L t).drop (j + 1))[m]? = some c ∧ digB c.toNat = false) → val (L (t.extract (j + 1) (j + 1 + m))) = val (dg2 ((L t).drop (j + 1)))) := by
            intro hx
            rw [dg2_stop hm (unhide Hd) hx, L_extract, show j + 1 + m - (j + 1) = m by omega]
          have hes : (t.extract (j + 1) (j + 1 + m)).size ≤ 18 := by rw [← L_length, L_extract]; simp; omega
          have Hed := hide (dig_at (t := t.extract (j + 1) (j + 1 + m)) (l := ((L t).drop (j + 1)).take m) (by rw [L_extract, show j + 1 + m - (j + 1) = m by omega]) (unhide Hd))
          have hcase : (t.size ≤ j + 1 + m) ∨ (j + 1 + m < t.size ∧ m = 2) ∨ (∃ h : j + 1 + m < t.size, m < 2 ∧ t[j + 1 + m].toNat < 48) ∨ (∃ h : j + 1 + m < t.size, m < 2 ∧ 48 ≤ t[j + 1 + m].toNat ∧ 57 < t[j + 1 + m].toNat) ∨ (∃ h : j + 1 + m < t.size, m < 2 ∧ 48 ≤ t[j + 1 + m].toNat ∧ t[j + 1 + m].toNat ≤ 57) := by
            by_cases h1 : t.size ≤ j + 1 + m
            · exact .inl h1
            by_cases h2 : m = 2
            · exact .inr (.inl ⟨by omega, h2⟩)
            have h3 : j + 1 + m < t.size := by omega
            by_cases h4 : t[j + 1 + m].toNat < 48
            · exact .inr (.inr (.inl ⟨h3, by omega, h4⟩))
            by_cases h5 : 57 < t[j + 1 + m].toNat
            · exact .inr (.inr (.inr (.inl ⟨h3, by omega, by omega, h5⟩)))
            · exact .inr (.inr (.inr (.inr ⟨h3, by omega, by omega, by omega⟩)))
          have hkk : ((j + 1 + m : Nat) : Int) = (j : Int) + 1 + m := by omega
          rcases hcase with hx | ⟨hx, rfl⟩ | ⟨hx, hm2, h48⟩ | ⟨hx, hm2, h48, h57⟩ | ⟨hx, hm2, h48, h57⟩
          rotate_right
          · have Hd2 := hide (take_dig hx (unhide Hd) (by unfold digB; simp; omega))
            go_wp2_with fail
            go_roundg (2 - (m + 1))
            case measure => omega
            case rel => exact ⟨m + 1, by omega, rfl, by omega, by go_num, rfl, unhide Hd2⟩
          · have Hv := hide (unhide HX (.inr (.inl (by rw [List.length_drop, L_length]; omega))))
            clear HX Hd
            go_wp2_with fail
            refine (value_any _ _ hes (unhide Hed)).mono ?_
            rintro e w2 ⟨rfl, _, _, rfl⟩
            obtain ⟨v, hv⟩ : ∃ v, val (dg2 ((L t).drop (j + 1))) = v := ⟨_, rfl⟩
            rw [unhide Hv, hv]
            rw [hv] at Hst
            clear hv Hv
            go_wp2_with fail
            refine (unhide Hth v _ (unhide Hb)).mono ?_
            rintro e w3 ⟨rfl, rfl⟩
            cases hth : ther s v with
            | true =>
              rw [show notB s v = false by unfold notB; rw [hth]; rfl] at Hst
              go_wp2_with fail
              go_roundg (t.size - (j + 1))
              case measure => omega
              case rel => exact ⟨j + 1, by omega, rfl, by go_num, by show _ = _; rw [← unhide Ho, unhide Hst]; simp, unhide Hb⟩
            | false =>
              rw [show notB s v = true by unfold notB; rw [hth]; rfl] at Hst
              go_wp2_with fail
              go_ret
              exact ⟨retB' (by rw [← unhide Ho, unhide Hst]; simp), unhide Hb⟩
          · have Hv := hide (unhide HX (.inl rfl))
            clear HX Hd
            go_wp2_with fail
            refine (value_any _ _ hes (unhide Hed)).mono ?_
            rintro e w2 ⟨rfl, _, _, rfl⟩
            obtain ⟨v, hv⟩ : ∃ v, val (dg2 ((L t).drop (j + 1))) = v := ⟨_, rfl⟩
            rw [unhide Hv, hv]
            rw [hv] at Hst
            clear hv Hv
            go_wp2_with fail
            refine (unhide Hth v _ (unhide Hb)).mono ?_
            rintro e w3 ⟨rfl, rfl⟩
            cases hth : ther s v with
            | true =>
              rw [show notB s v = false by unfold notB; rw [hth]; rfl] at Hst
              go_wp2_with fail
              go_roundg (t.size - (j + 1))
              case measure => omega
              case rel => exact ⟨j + 1, by omega, rfl, by go_num, by show _ = _; rw [← unhide Ho, unhide Hst]; simp, unhide Hb⟩
            | false =>
              rw [show notB s v = true by unfold notB; rw [hth]; rfl] at Hst
              go_wp2_with fail
              go_ret
              exact ⟨retB' (by rw [← unhide Ho, unhide Hst]; simp), unhide Hb⟩
          · have Hv := hide (unhide HX (.inr (.inr ⟨t[j + 1 + m], by rw [List.getElem?_drop]; exact L_get? t _ hx, by unfold digB; simp; omega⟩)))
            clear HX Hd
            go_wp2_with fail
            refine (value_any _ _ hes (unhide Hed)).mono ?_
            rintro e w2 ⟨rfl, _, _, rfl⟩
            obtain ⟨v, hv⟩ : ∃ v, val (dg2 ((L t).drop (j + 1))) = v := ⟨_, rfl⟩
            rw [unhide Hv, hv]
            rw [hv] at Hst
            clear hv Hv
            go_wp2_with fail
            refine (unhide Hth v _ (unhide Hb)).mono ?_
            rintro e w3 ⟨rfl, rfl⟩
            cases hth : ther s v with
            | true =>
              rw [show notB s v = false by unfold notB; rw [hth]; rfl] at Hst
              go_wp2_with fail
              go_roundg (t.size - (j + 1))
              case measure => omega
              case rel => exact ⟨j + 1, by omega, rfl, by go_num, by show _ = _; rw [← unhide Ho, unhide Hst]; simp, unhide Hb⟩
            | false =>
              rw [show notB s v = true by unfold notB; rw [hth]; rfl] at Hst
              go_wp2_with fail
              go_ret
              exact ⟨retB' (by rw [← unhide Ho, unhide Hst]; simp), unhide Hb⟩
          · have Hv := hide (unhide HX (.inr (.inr ⟨t[j + 1 + m], by rw [List.getElem?_drop]; exact L_get? t _ hx, by unfold digB; simp; omega⟩)))
            clear HX Hd
            go_wp2_with fail
            refine (value_any _ _ hes (unhide Hed)).mono ?_
            rintro e w2 ⟨rfl, _, _, rfl⟩
            obtain ⟨v, hv⟩ : ∃ v, val (dg2 ((L t).drop (j + 1))) = v := ⟨_, rfl⟩
            rw [unhide Hv, hv]
            rw [hv] at Hst
            clear hv Hv
            go_wp2_with fail
            refine (unhide Hth v _ (unhide Hb)).mono ?_
            rintro e w3 ⟨rfl, rfl⟩
            cases hth : ther s v with
            | true =>
              rw [show notB s v = false by unfold notB; rw [hth]; rfl] at Hst
              go_wp2_with fail
              go_roundg (t.size - (j + 1))
              case measure => omega
              case rel => exact ⟨j + 1, by omega, rfl, by go_num, by show _ = _; rw [← unhide Ho, unhide Hst]; simp, unhide Hb⟩
            | false =>
              rw [show notB s v = true by unfold notB; rw [hth]; rfl] at Hst
              go_wp2_with fail
              go_ret
              exact ⟨retB' (by rw [← unhide Ho, unhide Hst]; simp), unhide Hb⟩
    · obtain rfl : j = t.size := by omega
      go_wp2_with fail
      go_ret
      exact ⟨retB' (by rw [← unhide Ho, L_drop_end t _ (Nat.le_refl _)]; rfl), unhide Hb⟩

/-- A cell as a text. -/
def cellT (c : Cl) : List UInt8 := if c.2 == 0 then Lib.itoa c.1 else [UInt8.ofNat c.2.toNat]
set_option maxRecDepth 100000 in
set_option maxHeartbeats 2000000 in
theorem refText_any (c : Cl) (w : World) (hc : ClOk c) :
    Calls Tryz.prog 167 #[clV c] w fun e w' => ∃ u : ByteArray, e = .returned (.string u) ∧ L u = cellT c ∧ u.size ≤ 21 ∧ Below w.heap.size w w' := by
  rcases hc with ⟨h0, hin⟩ | rfl | rfl
  · obtain ⟨a, b⟩ := c
    simp only at h0 hin
    subst h0
    unfold clV
    have hr := inR_iff.1 hin
    simp only
    clear hin
    go_enter Tryz.func167, Tryz.ntmps167
    go_wp2_with fail
    refine (number10_any a _ hr.1 hr.2).mono ?_
    rintro e w1 ⟨u, rfl, hu, hb⟩
    have Hu := hide hu
    have Hb : Hid (Below w.heap.size w w1) := ((Below.refl _ _).alloc (Nat.le_refl _) _).then' (by simp) hb
    clear hu hb
    go_wp2_with fail
    go_ret
    exact ⟨u, rfl, unhide Hu, itoa_size hr.1 hr.2 (unhide Hu), unhide Hb⟩
  · have hcv : (convert 187 9 (.slice (some ⟨w.heap.size + 1, 0, none⟩) 1 1)).run Tryz.prog ((w.alloc (.cells #[.int .i64 0, .int .u8 122] 139)).alloc (.cells #[.int .u8 122] 5)) = .ok (.string ⟨#[122]⟩) ((w.alloc (.cells #[.int .i64 0, .int .u8 122] 139)).alloc (.cells #[.int .u8 122] 5)) :=
      conv_one 122 _ _ (by simp)
    unfold clV
    simp only
    go_enter Tryz.func167, Tryz.ntmps167
    go_wp2_with fail
    go_ret
    exact ⟨_, rfl, rfl, by decide, ((Below.refl _ _).alloc (Nat.le_refl _) _).alloc (by simp) _⟩
  · have hcv : (convert 187 9 (.slice (some ⟨w.heap.size + 1, 0, none⟩) 1 1)).run Tryz.prog ((w.alloc (.cells #[.int .i64 0, .int .u8 111] 139)).alloc (.cells #[.int .u8 111] 5)) = .ok (.string ⟨#[111]⟩) ((w.alloc (.cells #[.int .i64 0, .int .u8 111] 139)).alloc (.cells #[.int .u8 111] 5)) :=
      conv_one 111 _ _ (by simp)
    unfold clV
    simp only
    go_enter Tryz.func167, Tryz.ntmps167
    go_wp2_with fail
    go_ret
    exact ⟨_, rfl, rfl, by decide, ((Below.refl _ _).alloc (Nat.le_refl _) _).alloc (by simp) _⟩
end Go.Proofs.YtdchbenfccofpaaGreatDoor
namespace Db
/-- What stands ahead of the i-th text: those ahead of it, and a sign. -/
def jpre (sep : UInt8) (l : List (List UInt8)) (i : Nat) : List UInt8 := if i = 0 then [] else jn sep (l.take i) ++ [sep]
theorem jn_pre {sep : UInt8} {l : List (List UInt8)} {i : Nat} {x : List UInt8} (h : l[i]? = some x) : jn sep (l.take (i + 1)) = jpre sep l i ++ x := by
  unfold jpre
  by_cases hi : i = 0
  · subst hi; rw [if_pos rfl]; exact jn_one h
  · rw [if_neg hi, jn_more (by omega) h]; simp
theorem jpre_zero (sep : UInt8) (l : List (List UInt8)) : jpre sep l 0 = [] := rfl
theorem jpre_pos {sep : UInt8} {l : List (List UInt8)} {i : Nat} (h : 0 < i) : jpre sep l i = jn sep (l.take i) ++ [sep] := by unfold jpre; rw [if_neg (by omega)]
end Db
namespace Go.Proofs.YtdchbenfccofpaaGreatDoor
open Go.RowKit Db

theorem size_app (a b : ByteArray) : (a ++ b).size = a.size + b.size := by rw [size_L, L_append, List.length_append, L_length, L_length]
def rowX (row : List Cl) : List (List UInt8) := row.map cellT
def rptX (cells : List (List Cl)) : List (List UInt8) := cells.map fun row => jn 44 (rowX row)
/-- A report's cells as a text. -/
def rptT (cells : List (List Cl)) : List UInt8 := jn 59 (rptX cells)
theorem outc_few {pd : List (Int × Int)} {pss : List (List Pt)} {er pl : Int} (h : outc pd pss = (er, pl)) (h0 : er = 0) : pd.length ≤ 4 ∧ pss.length ≤ 8 ∧ pl = 0 ∧ badN 0 pss < 0 := by
  subst h0
  unfold outc at h
  split at h
  · simp at h
  · split at h
    · simp at h
    · split at h
      · simp at h
      · split at h
        · simp at h
        · simp at h; omega
theorem rowW_of {t : ByteArray} {pd : List (List UInt8 × List UInt8)} {rows : List (List UInt8)} {pss : List (List Pt)} {ss : List ByteArray} {pl : Int} (hf : Db.Form (L t) pd rows pss) (ho : outc (pdv pd) pss = (0, pl)) (hss : ss.map L = rows) : ∀ (i : Nat) u ps, ss[i]? = some u → pss[i]? = some ps → RowW u ps i := by
  intro i u ps hu hps
  have hr : rows[i]? = some (L u) := by rw [← hss, List.getElem?_map, hu]; rfl
  have h := hf.row i (L u) ps hr hps
  refine ⟨h.wf, by rw [← L_length]; exact h.len, ?_⟩
  have h1 := badN_all pss 0 (by omega) (outc_few ho rfl).2.2.2 i ps hps
  exact nameB_lt h1 h.pos i (by omega)
theorem strg_of {t : ByteArray} {pd : List (List UInt8 × List UInt8)} {rows : List (List UInt8)} {pss : List (List Pt)} {ss : List ByteArray} (hf : Db.Form (L t) pd rows pss) (hss : ss.map L = rows) (q : Int → Bool) : ∀ (i : Nat) u ps, ss[i]? = some u → pss[i]? = some ps → strg q (L u) = selq q ps := by
  intro i u ps hu hps
  exact (hf.row i (L u) ps (by rw [← hss, List.getElem?_map, hu]; rfl) hps).sel q
theorem any_drop {α : Type} {f : α → Bool} {l : List α} {j : Nat} {x : α} (h : l[j]? = some x) : (l.drop j).any f = (f x || (l.drop (j + 1)).any f) := by
  obtain ⟨hi, rfl⟩ := List.getElem?_eq_some_iff.1 h
  rw [List.drop_eq_getElem_cons hi]; rfl
theorem shC_wid {s : Bk} {pd : List (Int × Int)} : ∀ (pss : List (List Pt)), ∀ row ∈ shC s pd pss, row.length = pd.length := by
  intro pss
  have key : ∀ (l : List (List Pt)) (acc : List (List Cl)), (∀ row ∈ acc, row.length = pd.length) → ∀ row ∈ l.foldl (fun cells ps => cells ++ [rowC s pd cells ps]) acc, row.length = pd.length := by
    intro l
    induction l with
    | nil => intro acc h; exact h
    | cons x t ih =>
      intro acc h
      rw [List.foldl_cons]
      refine ih _ ?_
      intro row hr
      simp at hr
      rcases hr with hr | rfl
      · exact h row hr
      · simp [rowC]
  exact key pss [] (by simp)

/-- What Report answers. -/
def RepIs (b : Bk) (s u : ByteArray) (er : Int) : Prop :=
  (200 < s.size ∧ er = 1 ∧ u = ⟨#[]⟩) ∨ (s.size ≤ 200 ∧ er = 2 ∧ 0 ≤ plc 0 0 0 0 (L s) ∧ u = ⟨#[]⟩) ∨
  (s.size ≤ 200 ∧ ∃ pd rows pss e0 pl, Db.Form (L s) pd rows pss ∧ outc (pdv pd) pss = (e0, pl) ∧ ((¬ e0 = 0 ∧ er = e0 ∧ u = ⟨#[]⟩) ∨ (e0 = 0 ∧ pss.any (selq (notB b)) = true ∧ er = 7 ∧ u = ⟨#[]⟩) ∨ (e0 = 0 ∧ pss.any (selq (notB b)) = false ∧ er = 0 ∧ L u = rptT (shC b (pdv pd) pss))))

set_option maxRecDepth 100000 in
set_option maxHeartbeats 8000000 in
theorem refReport_ok (B p : Nat) (b : Bk) (s : ByteArray) (w : World) (hs : s.size ≤ 200) (pd : List (List UInt8 × List UInt8)) (rows : List (List UInt8)) (pss : List (List Pt)) (pl : Int) (hf : Db.Form (L s) pd rows pss) (ho : outc (pdv pd) pss = (0, pl)) (h : Rfd w B p b) :
    Calls Tryz.prog 124 #[.pointer (some ⟨p, 0, none⟩), .string s] w fun e w' => ((pss.any (selq (notB b)) = true ∧ e = .returned (.tuple #[.string ⟨#[]⟩, .int .i64 7])) ∨ (pss.any (selq (notB b)) = false ∧ ∃ u, e = .returned (.tuple #[.string u, .int .i64 0]) ∧ L u = rptT (shC b (pdv pd) pss))) ∧ Below w.heap.size w w' := by
  have hfew := outc_few ho rfl
  have Hf := hide hf
  have Ho := hide ho
  have H := hide h
  clear hf ho h
  go_enter Tryz.func124, Tryz.ntmps124
  go_wp2_with fail
  refine (refRead_ok s _ hs pd rows pss (unhide Hf)).mono ?_
  rintro e w1 ⟨a1, n1, k1, a2, n2, k2, a3, n3, k3, er', pl', rfl, ho', hb, hsh⟩
  have hh := (unhide Ho).symm.trans ho'
  simp only [Prod.mk.injEq] at hh
  obtain ⟨rfl, rfl⟩ := hh
  obtain ⟨ss, hss, hsh⟩ := hsh rfl
  have hp4 : pd.length ≤ 4 := by have := hfew.1; simpa [pdv] using this
  have hlen : ss.length = pss.length := by rw [← (unhide Hf).len, ← hss, List.length_map]
  have hs8 : ss.length ≤ 8 := by rw [hlen]; exact hfew.2.1
  obtain rfl : n3 = ss.length := by obtain ⟨_, _, e1⟩ := ownsRow_form hsh.rr; cases e1; rfl
  have HrowW := hide (rowW_of (unhide Hf) (unhide Ho) hss)
  have Hstr := hide (strg_of (unhide Hf) hss (notB b))
  have hsz := hb.size
  obtain ⟨W, hW⟩ : ∃ W, w1.alloc (.cells #[.slice a1 n1 k1, .slice a2 n2 k2, .slice a3 ss.length k3] 129) = W := ⟨_, rfl⟩
  have HbW : Hid (Below w.heap.size w W) := by rw [← hW]; exact hb.alloc hsz _
  have HB : Hid (Blk W w1.heap.size #[.slice a1 n1 k1, .slice a2 n2 k2, .slice a3 ss.length k3] 129) := by rw [← hW]; exact Blk.new _ _ _
  have Hsh : Hid (SheetAt W w.heap.size (.slice a1 n1 k1) (.slice a2 n2 k2) (.slice a3 ss.length k3) pd ss) := by rw [← hW]; exact hsh.alloc _
  have hWs : W.heap.size = w1.heap.size + 1 := by rw [← hW]; simp
  have Hlen := hide hlen
  clear hb ho' hsh hss hlen
  go_wp2_with fail
  try rw [hW]
  clear hW
  go_loopg [9] ss.length (fun m i wr => ∃ j : Nat, j ≤ ss.length ∧ m = ss.length - j ∧ i = .int .i64 j ∧ Hid ((pss.drop j).any (selq (notB b)) = pss.any (selq (notB b))) ∧ Hid (Below W.heap.size W wr))
  case atStart => exact ⟨0, by omega, rfl, rfl, rfl, Below.refl _ _⟩
  case round =>
    obtain ⟨j, hj, rfl, rfl, Hany, Hbx⟩ := hrel
    have hszx := (unhide Hbx).size
    have HBx := hide ((unhide HB).kept (unhide Hbx))
    have b0 := (unhide HBx).cell 0
    have b1 := (unhide HBx).cell 1
    have b2 := (unhide HBx).cell 2
    simp only [List.getElem?_toArray, List.getElem?_cons_zero, List.getElem?_cons_succ] at b0 b1 b2
    have Hbw := hide ((unhide HbW).then' (unhide HbW).size (unhide Hbx))
    by_cases hlt : j < ss.length
    · obtain ⟨t, ht⟩ : ∃ t, ss[j]? = some t := ⟨ss[j], List.getElem?_eq_getElem hlt⟩
      obtain ⟨ps, hps⟩ : ∃ ps, pss[j]? = some ps := ⟨pss[j]'(by have := unhide Hlen; omega), List.getElem?_eq_getElem _⟩
      have hts := (unhide HrowW j t ps ht hps).sz
      have hst := unhide Hstr j t ps ht hps
      have Hdr := hide (any_drop (f := selq (notB b)) hps)
      have hshx := (unhide Hsh).kept (unhide Hbx)
      obtain ⟨gr, _, e1, hgr, hgr'⟩ := ownsRow_some hshx.rr (by omega)
      simp only [Value.slice.injEq, true_and] at e1
      obtain ⟨rfl, rfl⟩ := e1
      have ht' := ownsRow_cell hshx.rr (j := j) (u := .string t) (by rw [List.getElem?_map, ht]; rfl)
      have Hstg := hide (strange_any B p b t wr ((unhide H).kept (unhide Hbw)) hts)
      rw [hst] at Hstg
      obtain ⟨r, hr⟩ : ∃ r, selq (notB b) ps = r := ⟨_, rfl⟩
      rw [hr] at Hstg Hdr
      clear ht hps hst hshx hr
      go_wp2_with fail
      refine (unhide Hstg).mono ?_
      rintro e w2 ⟨rfl, hb2⟩
      have Hb2 := hide ((unhide Hbx).then' hszx hb2)
      have Hb2w := hide ((unhide Hbw).then' (unhide Hbw).size hb2)
      clear hb2 Hstg
      cases r with
      | true =>
        go_wp2_with fail
        go_ret2
        exact ⟨.inl ⟨by rw [← unhide Hany, unhide Hdr]; rfl, rfl⟩, unhide Hb2w⟩
      | false =>
        go_wp2_with fail
        go_roundg (ss.length - (j + 1))
        case measure => omega
        case rel => exact ⟨j + 1, by omega, rfl, by go_num, by show _ = _; rw [← unhide Hany, unhide Hdr]; simp, unhide Hb2⟩
    · obtain rfl : j = ss.length := by omega
      have Hno : Hid (pss.any (selq (notB b)) = false) := by show _ = _; rw [← unhide Hany, unhide Hlen, List.drop_length]; rfl
      have Hwk := hide (worked_any p w.heap.size B b pd ss pss _ _ _ wr ((unhide H).kept (unhide Hbw)) ((unhide Hsh).kept (unhide Hbx)) hp4 (unhide Hlen) hfew.2.1 (unhide HrowW))
      go_wp2_with fail
      refine (unhide Hwk).mono ?_
      rintro e w2 ⟨g, vc, vs, rfl, _, hg, hb2⟩
      have Hb2 := hide ((unhide Hbw).then' (unhide Hbw).size hb2)
      obtain ⟨cells, hcells⟩ : ∃ cells, shC b (pdv pd) pss = cells := ⟨_, rfl⟩
      have hcl : cells.length = pss.length := by rw [← hcells, shC_len]
      rw [hcells] at hg
      have Hcells := hide hcells
      have HG := hide hg
      obtain ⟨aoc, capc, rfl⟩ := ownsRow_form hg.cs.own
      have hvl : vs.length = cells.length := hg.cs.len
      have hc8 : cells.length ≤ 8 := hg.few.2
      have hsz2 := (unhide Hb2).size
      rw [hvl]
      clear hb2 hg hcells Hwk hcl
      go_wp2_with fail
      go_loopg [12, 13] cells.length (fun m tv i wx => ∃ j : Nat, ∃ u : ByteArray, j ≤ cells.length ∧ m = cells.length - j ∧ i = .int .i64 j ∧ tv = .string u ∧ u.size ≤ 100 * j ∧ Hid (L u = jn 59 ((rptX cells).take j)) ∧ Hid (Below w2.heap.size w2 wx))
      case atStart => exact ⟨0, ⟨#[]⟩, by omega, rfl, rfl, rfl, Nat.zero_le _, rfl, Below.refl _ _⟩
      case round =>
        obtain ⟨i, u, hi, rfl, rfl, rfl, hus, Hu, Hb3⟩ := hrel
        have hsz3 := (unhide Hb3).size
        by_cases hlt2 : i < cells.length
        · obtain ⟨row, hrow⟩ : ∃ row, cells[i]? = some row := ⟨cells[i], List.getElem?_eq_getElem hlt2⟩
          have hwid : row.length = pd.length := (unhide HG).wid row (List.mem_of_getElem? hrow)
          have Hok := hide ((unhide HG).ok row (List.mem_of_getElem? hrow))
          have HX : Hid ((rptX cells)[i]? = some (jn 44 (rowX row))) := by show _ = _; unfold rptX; rw [List.getElem?_map, hrow]; rfl
          obtain ⟨v, hv⟩ : ∃ v, vs[i]? = some v := ⟨vs[i]'(by omega), List.getElem?_eq_getElem _⟩
          have HR := hide ((unhide HG).cs.row i v row hv hrow)
          obtain ⟨aor, capr, rfl⟩ := ownsRow_form (unhide HR)
          obtain ⟨gc, _, e1, hgc, hgc'⟩ := ownsRow_some (unhide HG).cs.own (by omega)
          simp only [Value.slice.injEq] at e1
          obtain ⟨rfl, _, rfl⟩ := e1
          have Hd := hide (ownsRow_cell (by have := (unhide HG).cs.own; exact this) (j := i) hv)
          have Hin : Hid (∀ u1 : ByteArray, L u1 = jpre 59 (rptX cells) i → ∀ u2 : ByteArray, L u2 = jpre 59 (rptX cells) i ++ jn 44 (rowX row) → L u2 = jn 59 ((rptX cells).take (i + 1))) := by
            intro u1 h1 u2 h2
            rw [jn_pre (unhide HX), h2]
          have Hstart : Hid (∃ u1 : ByteArray, u1 = (if i = 0 then u else u ++ ⟨#[59]⟩) ∧ L u1 = jpre 59 (rptX cells) i ∧ u1.size ≤ 100 * i + 1) := by
            refine ⟨_, rfl, ?_, ?_⟩
            · by_cases h0 : i = 0
              · subst h0; rw [if_pos rfl, jpre_zero]; have := unhide Hu; simpa [jn] using this
              · rw [if_neg h0, L_append, unhide Hu, jpre_pos (by omega)]; rfl
            · by_cases h0 : i = 0
              · rw [if_pos h0]; omega
              · rw [if_neg h0, size_L, L_append, List.length_append, L_length]; show u.size + 1 ≤ _; omega
          obtain ⟨u1, hu1, hL1, hs1⟩ := unhide Hstart
          have HL1 := hide hL1
          clear Hstart hL1 hrow hv
          have hin : (i : Int) < (cells.length : Int) := by omega
          by_cases h0 : i = 0
          · have hpos : ¬ (0 : Int) < (i : Int) := by omega
            rw [if_pos h0] at hu1
            clear h0
            go_wp2_with fail
            obtain ⟨W3, hW3⟩ : ∃ W3, wr = W3 := ⟨_, rfl⟩
            rw [hW3] at Hb3 hsz3 ⊢
            clear hW3
            go_loopg [12, 14] pd.length (fun m tv iv wx => ∃ k : Nat, ∃ u : ByteArray, k ≤ pd.length ∧ m = pd.length - k ∧ iv = .int .i64 k ∧ tv = .string u ∧ u.size ≤ 810 + 22 * k ∧ Hid (u.size ≤ 100 * i + 1 + 22 * k) ∧ Hid (L u = jpre 59 (rptX cells) i ++ jn 44 ((rowX row).take k)) ∧ Hid (Below W3.heap.size W3 wx))
            case atStart => exact ⟨0, u, by omega, rfl, rfl, rfl, by rw [← hu1]; omega, (show _ ≤ _ from by rw [← hu1]; omega), (show _ = _ from by rw [← hu1, unhide HL1]; simp [jn]), Below.refl _ _⟩
            case round =>
              obtain ⟨k, u2, hk, rfl, rfl, rfl, hu2s, Hu2s, Hu2, Hb4⟩ := hrel
              have hsz4 := (unhide Hb4).size
              have Hbw4 := hide ((unhide Hb3).then' hsz3 (unhide Hb4))
              have dd := kept_cell' (unhide Hbw4) (unhide Hd)
              by_cases hlk : k < pd.length
              · obtain ⟨c, hc⟩ : ∃ c, row[k]? = some c := ⟨row[k]'(by omega), List.getElem?_eq_getElem _⟩
                have hro := ownsRow_below (unhide HR) (unhide Hbw4)
                obtain ⟨gr, _, e1, hgr, hgr'⟩ := ownsRow_some hro (by omega)
                simp only [Value.slice.injEq, true_and] at e1
                obtain ⟨rfl, rfl⟩ := e1
                have h2 := two_get (fun c : Cl => Value.int .i64 c.1) (fun c => Value.int .u8 c.2) row k c hc
                have d1 := ownsRow_cell hro (j := k * 2) h2.1
                have d2 := ownsRow_cell hro (j := k * 2 + 1) h2.2
                have Hoc := hide (unhide Hok c (List.mem_of_getElem? hc))
                have Hxc : Hid ((rowX row)[k]? = some (cellT c)) := by show _ = _; unfold rowX; rw [List.getElem?_map, hc]; rfl
                have Htx := hide (fun wx : World => refText_any c wx (unhide Hoc))
                obtain ⟨c1, c2⟩ := c
                unfold clV at Htx
                simp only at d1 d2 Htx
                have hkr : (k : Int) < (row.length : Int) := by omega
                clear hro h2 hc
                by_cases hk0 : k = 0
                · have hk1 : ¬ (0 : Int) < (k : Int) := by omega
                  have Hk0 := hide hk0
                  clear hk0
                  go_wp2_with fail
                  refine (unhide Htx _).mono ?_
                  rintro e w6 ⟨u6, rfl, hu6, hs6, hb6⟩
                  have Hu6 : Hid (L (u2 ++ u6) = jpre 59 (rptX cells) i ++ jn 44 ((rowX row).take (k + 1))) := by
                    show _ = _
                    rw [L_append, unhide Hu2, hu6, jn_pre (unhide Hxc), unhide Hk0, jpre_zero]; simp [jn]
                  have Hs6 : Hid ((u2 ++ u6).size ≤ 100 * i + 1 + 22 * (k + 1) ∧ (u2 ++ u6).size ≤ 810 + 22 * (k + 1)) := by
                    have := unhide Hu2s
                    show _ ∧ _
                    rw [size_L, L_append, List.length_append, L_length, L_length]; omega
                  have Hb6 := hide ((unhide Hb4).then' hsz4 hb6)
                  clear hu6 hb6
                  go_wp2_with fail
                  go_roundg (pd.length - (k + 1))
                  case measure => omega
                  case rel => exact ⟨k + 1, _, by omega, rfl, by go_num, rfl, (unhide Hs6).2, (unhide Hs6).1, unhide Hu6, unhide Hb6⟩
                · have hk1 : (0 : Int) < (k : Int) := by omega
                  go_wp2_with fail
                  refine (unhide Htx _).mono ?_
                  rintro e w6 ⟨u6, rfl, hu6, hs6, hb6⟩
                  have Hu6 : Hid (L (u2 ++ ⟨#[44]⟩ ++ u6) = jpre 59 (rptX cells) i ++ jn 44 ((rowX row).take (k + 1))) := by
                    show _ = _
                    rw [L_append, L_append, unhide Hu2, hu6, jn_pre (unhide Hxc), jpre_pos (sep := 44) (i := k) (by omega), show L ⟨#[44]⟩ = [44] from rfl]; simp
                  have Hs6 : Hid ((u2 ++ ⟨#[44]⟩ ++ u6).size ≤ 100 * i + 1 + 22 * (k + 1) ∧ (u2 ++ ⟨#[44]⟩ ++ u6).size ≤ 810 + 22 * (k + 1)) := by
                    have := unhide Hu2s
                    show _ ∧ _
                    rw [size_app, size_app]; show u2.size + 1 + u6.size ≤ _ ∧ u2.size + 1 + u6.size ≤ _; omega
                  have Hb6 := hide ((unhide Hb4).then' hsz4 hb6)
                  clear hu6 hb6
                  go_wp2_with fail
                  go_roundg (pd.length - (k + 1))
                  case measure => omega
                  case rel => exact ⟨k + 1, _, by omega, rfl, by go_num, rfl, (unhide Hs6).2, (unhide Hs6).1, unhide Hu6, unhide Hb6⟩
              · obtain rfl : k = pd.length := by omega
                have Hu7 : Hid (L u2 = jn 59 ((rptX cells).take (i + 1))) := unhide Hin _ (unhide HL1) u2 (by rw [unhide Hu2, List.take_of_length_le (by simp [rowX, hwid])])
                have hs7 : u2.size ≤ 100 * (i + 1) := by have := unhide Hu2s; omega
                go_wp2_with fail
                go_roundg (cells.length - (i + 1))
                case measure => omega
                case rel => exact ⟨i + 1, u2, by omega, rfl, by go_num, rfl, hs7, unhide Hu7, unhide Hbw4⟩
          · have hpos : (0 : Int) < (i : Int) := by omega
            have hposN : decide (0 < i) = true := by simp; omega
            rw [if_neg h0] at hu1
            clear h0
            go_wp2_with fail
            obtain ⟨W3, hW3⟩ : ∃ W3, wr = W3 := ⟨_, rfl⟩
            rw [hW3] at Hb3 hsz3 ⊢
            clear hW3
            go_loopg [12, 14] pd.length (fun m tv iv wx => ∃ k : Nat, ∃ u : ByteArray, k ≤ pd.length ∧ m = pd.length - k ∧ iv = .int .i64 k ∧ tv = .string u ∧ u.size ≤ 810 + 22 * k ∧ Hid (u.size ≤ 100 * i + 1 + 22 * k) ∧ Hid (L u = jpre 59 (rptX cells) i ++ jn 44 ((rowX row).take k)) ∧ Hid (Below W3.heap.size W3 wx))
            case atStart => exact ⟨0, (u ++ ⟨#[59]⟩), by omega, rfl, rfl, rfl, by rw [← hu1]; omega, (show _ ≤ _ from by rw [← hu1]; omega), (show _ = _ from by rw [← hu1, unhide HL1]; simp [jn]), Below.refl _ _⟩
            case round =>
              obtain ⟨k, u2, hk, rfl, rfl, rfl, hu2s, Hu2s, Hu2, Hb4⟩ := hrel
              have hsz4 := (unhide Hb4).size
              have Hbw4 := hide ((unhide Hb3).then' hsz3 (unhide Hb4))
              have dd := kept_cell' (unhide Hbw4) (unhide Hd)
              by_cases hlk : k < pd.length
              · obtain ⟨c, hc⟩ : ∃ c, row[k]? = some c := ⟨row[k]'(by omega), List.getElem?_eq_getElem _⟩
                have hro := ownsRow_below (unhide HR) (unhide Hbw4)
                obtain ⟨gr, _, e1, hgr, hgr'⟩ := ownsRow_some hro (by omega)
                simp only [Value.slice.injEq, true_and] at e1
                obtain ⟨rfl, rfl⟩ := e1
                have h2 := two_get (fun c : Cl => Value.int .i64 c.1) (fun c => Value.int .u8 c.2) row k c hc
                have d1 := ownsRow_cell hro (j := k * 2) h2.1
                have d2 := ownsRow_cell hro (j := k * 2 + 1) h2.2
                have Hoc := hide (unhide Hok c (List.mem_of_getElem? hc))
                have Hxc : Hid ((rowX row)[k]? = some (cellT c)) := by show _ = _; unfold rowX; rw [List.getElem?_map, hc]; rfl
                have Htx := hide (fun wx : World => refText_any c wx (unhide Hoc))
                obtain ⟨c1, c2⟩ := c
                unfold clV at Htx
                simp only at d1 d2 Htx
                have hkr : (k : Int) < (row.length : Int) := by omega
                clear hro h2 hc
                by_cases hk0 : k = 0
                · have hk1 : ¬ (0 : Int) < (k : Int) := by omega
                  have Hk0 := hide hk0
                  clear hk0
                  go_wp2_with fail
                  refine (unhide Htx _).mono ?_
                  rintro e w6 ⟨u6, rfl, hu6, hs6, hb6⟩
                  have Hu6 : Hid (L (u2 ++ u6) = jpre 59 (rptX cells) i ++ jn 44 ((rowX row).take (k + 1))) := by
                    show _ = _
                    rw [L_append, unhide Hu2, hu6, jn_pre (unhide Hxc), unhide Hk0, jpre_zero]; simp [jn]
                  have Hs6 : Hid ((u2 ++ u6).size ≤ 100 * i + 1 + 22 * (k + 1) ∧ (u2 ++ u6).size ≤ 810 + 22 * (k + 1)) := by
                    have := unhide Hu2s
                    show _ ∧ _
                    rw [size_L, L_append, List.length_append, L_length, L_length]; omega
                  have Hb6 := hide ((unhide Hb4).then' hsz4 hb6)
                  clear hu6 hb6
                  go_wp2_with fail
                  go_roundg (pd.length - (k + 1))
                  case measure => omega
                  case rel => exact ⟨k + 1, _, by omega, rfl, by go_num, rfl, (unhide Hs6).2, (unhide Hs6).1, unhide Hu6, unhide Hb6⟩
                · have hk1 : (0 : Int) < (k : Int) := by omega
                  go_wp2_with fail
                  refine (unhide Htx _).mono ?_
                  rintro e w6 ⟨u6, rfl, hu6, hs6, hb6⟩
                  have Hu6 : Hid (L (u2 ++ ⟨#[44]⟩ ++ u6) = jpre 59 (rptX cells) i ++ jn 44 ((rowX row).take (k + 1))) := by
                    show _ = _
                    rw [L_append, L_append, unhide Hu2, hu6, jn_pre (unhide Hxc), jpre_pos (sep := 44) (i := k) (by omega), show L ⟨#[44]⟩ = [44] from rfl]; simp
                  have Hs6 : Hid ((u2 ++ ⟨#[44]⟩ ++ u6).size ≤ 100 * i + 1 + 22 * (k + 1) ∧ (u2 ++ ⟨#[44]⟩ ++ u6).size ≤ 810 + 22 * (k + 1)) := by
                    have := unhide Hu2s
                    show _ ∧ _
                    rw [size_app, size_app]; show u2.size + 1 + u6.size ≤ _ ∧ u2.size + 1 + u6.size ≤ _; omega
                  have Hb6 := hide ((unhide Hb4).then' hsz4 hb6)
                  clear hu6 hb6
                  go_wp2_with fail
                  go_roundg (pd.length - (k + 1))
                  case measure => omega
                  case rel => exact ⟨k + 1, _, by omega, rfl, by go_num, rfl, (unhide Hs6).2, (unhide Hs6).1, unhide Hu6, unhide Hb6⟩
              · obtain rfl : k = pd.length := by omega
                have Hu7 : Hid (L u2 = jn 59 ((rptX cells).take (i + 1))) := unhide Hin _ (unhide HL1) u2 (by rw [unhide Hu2, List.take_of_length_le (by simp [rowX, hwid])])
                have hs7 : u2.size ≤ 100 * (i + 1) := by have := unhide Hu2s; omega
                go_wp2_with fail
                go_roundg (cells.length - (i + 1))
                case measure => omega
                case rel => exact ⟨i + 1, u2, by omega, rfl, by go_num, rfl, hs7, unhide Hu7, unhide Hbw4⟩
        · obtain rfl : i = cells.length := by omega
          have Hfin : Hid (L u = rptT (shC b (pdv pd) pss)) := by
            show _ = _
            rw [unhide Hu, unhide Hcells]
            unfold rptT
            rw [List.take_of_length_le (by simp [rptX])]
          go_wp2_with fail
          go_ret2
          exact ⟨.inr ⟨unhide Hno, u, rfl, unhide Hfin⟩, (unhide Hb2).then' hsz2 (unhide Hb3)⟩
end Go.Proofs.YtdchbenfccofpaaGreatDoor
namespace Db
open Go

theorem valGo_app (l : List UInt8) (c : UInt8) : ∀ n, valGo n (l ++ [c]) = 10 * valGo n l + ((c.toNat : Int) - 48) := by
  induction l with
  | nil => intro n; rfl
  | cons x t ih => intro n; exact ih _
theorem ofNat_dig {d : Nat} (h : d < 10) : (UInt8.ofNat (48 + d)).toNat = 48 + d := by simp; omega
/-- The digits of a number. -/
theorem dec_facts (u : Nat) : (∀ c ∈ Lib.decDigits u, digB c.toNat = true) ∧ val (Lib.decDigits u) = u ∧ Lib.decDigits u ≠ [] ∧ (1 ≤ u → 10 ^ ((Lib.decDigits u).length - 1) ≤ u ∧ ∃ c t, Lib.decDigits u = c :: t ∧ ¬ c.toNat = 48) := by
  induction u using Nat.strongRecOn with
  | ind u ih =>
    by_cases h : u < 10
    · rw [Lib.decDigits_one h]
      have hd := ofNat_dig h
      refine ⟨?_, ?_, by simp, ?_⟩
      · intro c hc
        simp only [List.mem_singleton] at hc
        subst hc
        rw [hd]; unfold digB; simp; omega
      · show 10 * 0 + (((UInt8.ofNat (48 + u)).toNat : Int) - 48) = u
        rw [hd]; omega
      · intro h1
        refine ⟨by simpa using h1, _, [], rfl, ?_⟩
        rw [hd]; omega
    · obtain ⟨h1, h2, h3, h4⟩ := ih (u / 10) (by omega)
      obtain ⟨h5, c, t, h6, h7⟩ := h4 (by omega)
      have hd := ofNat_dig (d := u % 10) (by omega)
      have he : Lib.decDigits u = Lib.decDigits (u / 10) ++ [UInt8.ofNat (48 + u % 10)] := by rw [Lib.decDigits, dif_neg h]
      rw [he]
      refine ⟨?_, ?_, by simp, fun _ => ⟨?_, c, t ++ [UInt8.ofNat (48 + u % 10)], by rw [h6]; rfl, h7⟩⟩
      · intro x hx
        simp only [List.mem_append, List.mem_singleton] at hx
        rcases hx with hx | rfl
        · exact h1 x hx
        · rw [hd]; unfold digB; simp; omega
      · unfold val at h2 ⊢
        rw [valGo_app, h2, hd]; omega
      · have hl : 1 ≤ (Lib.decDigits (u / 10)).length := by rw [h6]; simp
        rw [List.length_append, List.length_singleton, Nat.add_sub_cancel]
        obtain ⟨m, hm⟩ : ∃ m, (Lib.decDigits (u / 10)).length = m + 1 := ⟨(Lib.decDigits (u / 10)).length - 1, by omega⟩
        rw [hm] at h5 ⊢
        rw [Nat.add_sub_cancel] at h5
        rw [Nat.pow_succ]
        omega
theorem dec_len {u : Nat} (h : u ≤ 9223372036854775808) : (Lib.decDigits u).length ≤ 19 := by
  by_cases h0 : u = 0
  · subst h0; rw [Lib.decDigits_one (by omega)]; decide
  · have h1 := ((dec_facts u).2.2.2 (by omega)).1
    rcases Nat.lt_or_ge 19 (Lib.decDigits u).length with h2 | h2
    · exfalso
      have h3 : 10 ^ 19 ≤ 10 ^ ((Lib.decDigits u).length - 1) := Nat.pow_le_pow_right (by omega) (by omega)
      have : (10 : Nat) ^ 19 = 10000000000000000000 := by decide
      omega
    · exact h2
end Db
namespace Db
open Go

theorem opnd_det {e : List UInt8} {p q : List Pt} (h : Opnd e p) (k : Opnd e q) : p = q := by
  rcases h with ⟨_, _, h2, rfl⟩ | ⟨c, ds, rfl, h1, hd, hs, rfl⟩ <;> rcases k with ⟨_, _, k2, rfl⟩ | ⟨c', ds', k0, k1, kd, ks, rfl⟩
  · rfl
  · have := h2 c' (by rw [k0]; simp)
    exfalso
    rcases ks with ⟨ks, _⟩ | ⟨ks, _⟩
    · rw [(sel_c ks).2.2.2] at this; cases this
    · rw [(old_c ks).2.2.2.1] at this; cases this
  · have := k2 c (by simp)
    exfalso
    rcases hs with ⟨ks, _⟩ | ⟨ks, _⟩
    · rw [(sel_c ks).2.2.2] at this; cases this
    · rw [(old_c ks).2.2.2.1] at this; cases this
  · simp only [List.cons.injEq] at k0
    obtain ⟨rfl, rfl⟩ := k0
    rfl
theorem wf_det {n : Nat} : ∀ {m : Nat} {e : List UInt8} {p q : List Pt}, Wf n e p → Wf m e q → p = q := by
  induction n with
  | zero => intro m e p q h; exact absurd h (by simp [Wf])
  | succ n ih =>
    intro m e p q h k
    cases m with
    | zero => exact absurd k (by simp [Wf])
    | succ m =>
      rcases h with ⟨h0, h⟩ | ⟨h0, h⟩ | ⟨h0, x, h, rfl⟩ | ⟨h0, x, y, h, h', rfl⟩ <;> rcases k with ⟨k0, k⟩ | ⟨k0, k⟩ | ⟨k0, x', k, rfl⟩ | ⟨k0, x', y', k, k', rfl⟩
      all_goals first
        | (exfalso; rw [h0] at k0; simp [opB] at k0; done)
        | (exfalso; rw [k0] at h0; simp [opB] at h0; done)
        | exact opnd_det h k
        | exact ih h k
        | (rw [ih h k, ih h' k'])
        | (rw [ih h k])
theorem seg_inj {a b c d : List UInt8} (ha : dayS a) (hc : dayS c) (h : a ++ 45 :: b = c ++ 45 :: d) : a = c ∧ b = d := by
  have h1 := congrArg (fun l => split l 45) h
  have na := dayS_ne ha 45 rfl
  have nc := dayS_ne hc 45 rfl
  simp only [split_cons 45 _ _ na, split_cons 45 _ _ nc] at h1
  simp only [List.cons.injEq] at h1
  obtain ⟨rfl, _⟩ := h1
  have h2 := List.append_cancel_left h
  simp only [List.cons.injEq, true_and] at h2
  exact ⟨rfl, h2⟩
theorem form_one {l : List UInt8} {pd pd' : List (List UInt8 × List UInt8)} {rows rows' : List (List UInt8)} {pss pss' : List (List Pt)} (h : Form l pd rows pss) (k : Form l pd' rows' pss') : pd = pd' ∧ pss = pss' := by
  obtain ⟨x, y, h1, h2, h3⟩ := h.sht.parts
  obtain ⟨x', y', k1, k2, k3⟩ := k.sht.parts
  rw [h1] at k1
  simp only [List.cons.injEq, and_true] at k1
  obtain ⟨rfl, rfl⟩ := k1
  rw [h2] at k2
  rw [h3] at k3
  subst k3
  constructor
  · have hd := h.sht.days
    have kd := k.sht.days
    clear h k h1 h2 h3
    induction pd generalizing pd' with
    | nil => cases pd' with
      | nil => rfl
      | cons a r => simp at k2
    | cons a r ih =>
      cases pd' with
      | nil => simp at k2
      | cons a' r' =>
        simp only [List.map_cons, List.cons.injEq] at k2
        have h4 := seg_inj (hd a (by simp)).1 (kd a' (by simp)).1 k2.1
        rw [ih k2.2 (fun p hp => hd p (by simp [hp])) (fun p hp => kd p (by simp [hp]))]
        obtain ⟨a1, a2⟩ := a
        obtain ⟨b1, b2⟩ := a'
        simp only at h4
        rw [h4.1, h4.2]
  · have hl : pss.length = pss'.length := by rw [← h.len, ← k.len]
    refine List.ext_getElem? fun i => ?_
    by_cases hi : i < pss.length
    · obtain ⟨p, hp⟩ : ∃ p, pss[i]? = some p := ⟨pss[i], List.getElem?_eq_getElem hi⟩
      obtain ⟨q, hq⟩ : ∃ q, pss'[i]? = some q := ⟨pss'[i]'(by omega), List.getElem?_eq_getElem _⟩
      obtain ⟨e, he⟩ : ∃ e, rows[i]? = some e := ⟨rows[i]'(by rw [h.len]; exact hi), List.getElem?_eq_getElem _⟩
      obtain ⟨n, hn⟩ := (h.row i e p he hp).wf
      obtain ⟨m, hm⟩ := (k.row i e q he hq).wf
      rw [hp, hq, wf_det hn hm]
    · rw [List.getElem?_eq_none (by omega), List.getElem?_eq_none (by omega)]

/-- An operand as a row. -/
theorem exp_of_fac {l l' : List UInt8} {ps : List Pt} (h : Fac l true l' ps) (h1 : ¬ hd l' = 32) (h2 : opB (hd l') = false) : Exp l true l' ps := by
  have hb : Blanks [] := fun c hc => by cases hc
  have t := trm_fac (x := []) h hb
  have t2 : Trm l true l' ps := trm_end t ⟨h1, by intro e; rw [e] at h2; simp [opB] at h2, by intro e; rw [e] at h2; simp [opB] at h2⟩
  exact trm_end (got_any (exp_trm t2)) ⟨h1, h2⟩
theorem exp_sel {c : UInt8} {ds l' : List UInt8} (hc : selB c.toNat = true) (hd1 : ∀ x ∈ ds, digB x.toNat = true) (h1 : 1 ≤ ds.length) (h2 : ds.length ≤ 2) (hl : l' = [] ∨ hd l' = 59) : Exp (c :: (ds ++ l')) true l' [((c.toNat : Int), val ds)] := by
  have hdg : digB (hd l') = false := by rcases hl with rfl | hl; rfl; rw [hl]; rfl
  have h := fac_opnd (e := c :: ds) (l' := l') (ps := [((c.toNat : Int), val ds)]) (.inr ⟨c, ds, rfl, h1, hd1, .inl ⟨hc, h2⟩, rfl⟩) (fun d k i => by
    rw [List.cons_append, plc_sel1 hc, plc_sel ds hd1 h1 h2 l' (.inr hdg)]
    congr 1
    simp; omega)
  rw [List.cons_append] at h
  exact exp_of_fac h (by rcases hl with rfl | hl; simp [hd]; rw [hl]; omega) (by rcases hl with rfl | hl; rfl; rw [hl]; rfl)
theorem exp_old {c x : UInt8} {l' : List UInt8} (hc : oldB c.toNat = true) (hx : digB x.toNat = true) (hl : l' = [] ∨ hd l' = 59) : Exp (c :: x :: l') true l' [((c.toNat : Int), val [x])] := by
  have h := fac_opnd (e := [c, x]) (l' := l') (ps := [((c.toNat : Int), val [x])]) (.inr ⟨c, [x], rfl, by simp, by simpa using hx, .inr ⟨hc, rfl⟩, rfl⟩) (fun d k i => by
    show plc 6 d k i (c :: x :: l') = _
    rw [plc_old1 hc, plc_old x hx]
    congr 1
    simp; omega)
  exact exp_of_fac h (by rcases hl with rfl | hl; simp [hd]; rw [hl]; omega) (by rcases hl with rfl | hl; rfl; rw [hl]; rfl)
/-- A day's digits. -/
theorem day_dec {n : Int} (h0 : 0 ≤ n) (h1 : n ≤ 999) : dayS (Lib.itoa n) ∧ val (Lib.itoa n) = n := by
  obtain ⟨k, rfl⟩ : ∃ k : Nat, n = k := ⟨n.toNat, by omega⟩
  have hi : Lib.itoa (k : Int) = Lib.decDigits k := by unfold Lib.itoa; rw [if_neg (by omega)]; simp
  have hf := dec_facts k
  rw [hi]
  refine ⟨⟨?_, ?_, hf.1⟩, hf.2.1⟩
  · have := List.length_pos_iff.2 hf.2.2.1; omega
  · by_cases hk : 1 ≤ k
    · have := (hf.2.2.2 hk).1
      by_cases hl : (Lib.decDigits k).length ≤ 3
      · exact hl
      · have h3 : 10 ^ 3 ≤ 10 ^ ((Lib.decDigits k).length - 1) := Nat.pow_le_pow_right (by omega) (by omega)
        omega
    · obtain rfl : k = 0 := by omega
      rw [Lib.decDigits_one (by omega)]; simp
theorem per_dec {x y : Int} (hx0 : 0 ≤ x) (hx1 : x ≤ 999) (hy0 : 0 ≤ y) (hy1 : y ≤ 999) {l' : List UInt8} (hl : digB (hd l') = false) : Per (Lib.itoa x ++ 45 :: (Lib.itoa y ++ l')) true l' (Lib.itoa x) (Lib.itoa y) := by
  have hb : Blanks [] := fun c hc => by cases hc
  have := per_yes (x := []) (y := []) (z := []) (c := 45) (l' := l') hb (day_dec hx0 hx1).1 hb rfl hb (day_dec hy0 hy1).1 (.inr hl)
  simpa using this
end Db
namespace Go.Proofs.YtdchbenfccofpaaGreatDoor
open Go.RowKit Db
/-- What Report answers to a text of this form. -/
theorem rep_is {b : Bk} {s u : ByteArray} {er pl : Int} {pd : List (List UInt8 × List UInt8)} {rows : List (List UInt8)} {pss : List (List Pt)} (h : RepIs b s u er) (hs : s.size ≤ 200) (hf : Db.Form (L s) pd rows pss) (ho : outc (pdv pd) pss = (0, pl)) (hn : pss.any (selq (notB b)) = false) : er = 0 ∧ L u = rptT (shC b (pdv pd) pss) := by
  rcases h with ⟨h1, _⟩ | ⟨_, _, h1, _⟩ | ⟨_, pd', rows', pss', e0, pl', hf', ho', h⟩
  · omega
  · rw [hf.plc] at h1; omega
  · obtain ⟨rfl, rfl⟩ := form_one hf hf'
    rw [ho] at ho'
    simp only [Prod.mk.injEq] at ho'
    obtain ⟨rfl, rfl⟩ := ho'
    rcases h with ⟨h, _⟩ | ⟨_, h, _⟩ | ⟨_, _, h1, h2⟩
    · exact absurd rfl h
    · rw [hn] at h; cases h
    · exact ⟨h1, h2⟩
theorem cel_leaf {E : Pt → Cl} {p : Pt} (h : opdB p.1 = true) (h48 : ¬ p.1 = 48) : cel E [p] = E p := by
  unfold cel celO
  simp [vStep, h, opv, h48]
end Go.Proofs.YtdchbenfccofpaaGreatDoor
namespace Db

/-- What is true besides of every book that came of an empty one: transactions sum to nothing; all accounts but 0 have a parent. -/
structure Root (s : Bk) : Prop where
  sums : ∀ t ∈ s.txs, sumL t.2.2 = 0
  par : ∀ (i : Nat) c, 1 ≤ i → s.acs[i]? = some c → 0 ≤ c.1
theorem root0 : Root bk0 := ⟨by simp [bk0], by
  intro i c hi h
  match i, hi with
  | i + 1, _ => simp [bk0] at h⟩
theorem wth_zero {s : Bk} (hg : BkGood s) (hr : Root s) : ∀ (f : Nat) (a : Int), 0 ≤ a → a < f → a < s.acs.length → wth s.acs 0 f a = true := by
  intro f
  induction f with
  | zero => intro a h0 h1; omega
  | succ f ih =>
    intro a h0 h1 h2
    simp only [wth]
    rw [if_neg (by omega)]
    by_cases ha : a = 0
    · subst ha; rfl
    · rw [if_neg (by simpa using ha)]
      obtain ⟨c, hc⟩ : ∃ c, s.acs[a.toNat]? = some c := ⟨s.acs[a.toNat]'(by omega), List.getElem?_eq_getElem (by omega)⟩
      have h3 := hg.ord _ _ hc
      have h4 := hr.par a.toNat c (by omega) hc
      rw [List.getD_eq_getElem?_getD, hc, Option.getD_some]
      exact ih c.1 h4 (by omega) (by omega)
theorem tkL_all {q : Int → Bool} (ls : List Ln) (h : ∀ l ∈ ls, q l.1 = true) : (tkL q ls).1 = sumL ls := by
  induction ls with
  | nil => rfl
  | cons l r ih => simp only [tkL, sumL]; rw [if_pos (h l (by simp)), ih (fun x hx => h x (by simp [hx]))]
theorem tkL_none {q : Int → Bool} (ls : List Ln) (h : ∀ l ∈ ls, q l.1 = false) : tkL q ls = (0, 0) := by
  induction ls with
  | nil => rfl
  | cons l r ih => simp only [tkL]; rw [if_neg (by simp [h l (by simp)]), ih (fun x hx => h x (by simp [hx]))]
theorem tkT_zero {q : Int → Bool} (a b : Int) (ts : List Tn) (h : ∀ t ∈ ts, (tkL q t.2.2).1 = 0) : (tkT q a b ts).1 = 0 := by
  induction ts with
  | nil => rfl
  | cons t r ih =>
    have h1 := h t (by simp)
    have h2 := ih (fun x hx => h x (by simp [hx]))
    simp only [tkT]
    split
    · simp only [h1, h2]; rfl
    · exact h2
/-- All accounts together move by nothing; account 0 has no lines. -/
theorem all_zero {s : Bk} (hg : BkGood s) (hr : Root s) (a b : Int) : (tkT (inA s 64 0) a b s.txs).1 = 0 := by
  refine tkT_zero a b s.txs fun t ht => ?_
  rw [tkL_all t.2.2 fun l hl => ?_]
  · exact hr.sums t ht
  · have h1 := (hg.tx t ht).2.2.2.2.2 l hl
    have h2 := hg.acc t ht l hl
    exact wth_zero hg hr 16 l.1 (by omega) (by omega) h2
theorem own_zero {s : Bk} (hg : BkGood s) (a b : Int) : (tkT (inA s 33 0) a b s.txs).1 = 0 := by
  refine tkT_zero a b s.txs fun t ht => ?_
  rw [tkL_none t.2.2 fun l hl => ?_]
  have h1 := (hg.tx t ht).2.2.2.2.2 l hl
  show (if (33 : Int) == 33 then l.1 == 0 else _) = false
  simp; omega
end Db
namespace Go.Proofs.YtdchbenfccofpaaGreatDoor
open Go.RowKit Db

theorem clE_root {s : Bk} (hg : BkGood s) (hr : Root s) (kd a b : Int) (ls : List Ln) : Root (clE s kd a b ls).2.2 := by
  by_cases he : (clE s kd a b ls).2.1 = 0
  · by_cases h1 : kd = 1
    · subst h1
      have e1 : clE s 1 a b ls = opn s a := rfl
      rw [e1] at he ⊢
      obtain ⟨k, c, rfl, hc, hcc, h16, e2⟩ := opn_yes he
      rw [e2]
      refine ⟨hr.sums, fun i c hi h => ?_⟩
      simp only at h
      rw [List.getElem?_append] at h
      split at h
      · exact hr.par i c hi h
      · cases hj : i - s.acs.length with
        | zero => rw [hj] at h; simp at h; subst h; simp
        | succ m => rw [hj] at h; simp at h
    by_cases h2 : kd = 2
    · subst h2
      have e1 : clE s 2 a b ls = (0, (cls s a).1, (cls s a).2) := rfl
      rw [e1] at he ⊢
      obtain ⟨k, c, rfl, hc, h0, hcc, e2⟩ := cls_yes he
      rw [e2]
      refine ⟨hr.sums, fun i d hi h => ?_⟩
      simp only at h
      rw [List.getElem?_set] at h
      split at h
      · split at h
        · rename_i h3 _
          subst h3
          simp only [Option.some.injEq] at h
          subst h
          exact hr.par _ c hi hc
        · cases h
      · exact hr.par i d hi h
    by_cases h3 : kd = 3
    · subst h3
      have e1 : clE s 3 a b ls = (0, (pst s a b ls).1, (pst s a b ls).2) := rfl
      rw [e1] at he ⊢
      rcases pst_yes hg he with ⟨t, _, _, _, e2⟩ | ⟨_, _, _, _, hsum, e2⟩
      · simp only; rw [e2]; exact hr
      · simp only
        rw [e2]
        refine ⟨fun t ht => ?_, hr.par⟩
        simp only [List.mem_append, List.mem_singleton] at ht
        rcases ht with ht | rfl
        · exact hr.sums t ht
        · exact hsum
    · have e1 : clE s kd a b ls = (0, 0, s) := by unfold clE; rw [if_neg h1, if_neg h2, if_neg h3]
      rw [e1]; exact hr
  · rw [(clE_no he).2]; exact hr
theorem krun_root (xs : List KAct) : ∀ (t : KS), BkGood t.s → Root t.s → BkGood (krun t xs).s ∧ Root (krun t xs).s := by
  induction xs with
  | nil => intro t hg hr; exact ⟨hg, hr⟩
  | cons x r ih => intro t hg hr; exact ih (kstep t x) (clE_good hg _ _ _ _) (clE_root hg hr _ _ _ _)
theorem rdy_root : BkGood rdy.s ∧ Root rdy.s := krun_root rdL ⟨bk0, 0, []⟩ good0 root0

def pck (c n : Int) : Int := (if c < 0 then -(c + 1) else c) % n
theorem pck_in {c n : Int} (hn : 0 < n) : 0 ≤ pck c n ∧ pck c n < n := ⟨Int.emod_nonneg _ (by omega), Int.emod_lt_of_pos _ hn⟩

set_option maxRecDepth 100000 in
set_option maxHeartbeats 1000000 in
theorem pick_any (c n : Int) (w : World) (h0 : -9223372036854775808 ≤ c) (h1 : c ≤ 9223372036854775807) (hn : 0 < n) (hn2 : n ≤ 9223372036854775807) :
    Calls Tryz.prog 32 #[.int .i64 c, .int .i64 n] w fun e w' => e = .returned (.int .i64 (pck c n)) ∧ w' = w := by
  by_cases hc : c < 0
  · have hp : pck c n = (-(c + 1)) % n := by unfold pck; rw [if_pos hc]
    have hp2 := pck_in (c := c) hn
    have ht : Int.tmod (-(c + 1)) n = pck c n := by rw [hp, Int.tmod_eq_emod_of_nonneg (by omega)]
    have hw1 : IntKind.i64.wrap (-(c + 1)) = -(c + 1) := by rw [IntKind.wrap_i64]; omega
    have hw2 : IntKind.i64.wrap (pck c n) = pck c n := by rw [IntKind.wrap_i64]; omega
    have hnz : ¬ n = 0 := by omega
    have hnz' : (n == 0) = false := by simpa using hnz
    go_enter Tryz.func32, Tryz.ntmps32
    go_wp2_with fail
    go_ret
    exact ⟨by first | rfl | (simp; done) | simp [hp], rfl⟩
  · have hp : pck c n = c % n := by unfold pck; rw [if_neg hc]
    have hp2 := pck_in (c := c) hn
    have ht : Int.tmod c n = pck c n := by rw [hp, Int.tmod_eq_emod_of_nonneg (by omega)]
    have hw2 : IntKind.i64.wrap (pck c n) = pck c n := by rw [IntKind.wrap_i64]; omega
    have hnz : ¬ n = 0 := by omega
    have hnz' : (n == 0) = false := by simpa using hnz
    go_enter Tryz.func32, Tryz.ntmps32
    go_wp2_with fail
    go_ret
    exact ⟨by first | rfl | (simp; done) | simp [hp], rfl⟩

set_option maxRecDepth 100000 in
set_option maxHeartbeats 1000000 in
theorem kdays_any (c d : Int) (w : World) (h0 : -9223372036854775808 ≤ c) (h1 : c ≤ 9223372036854775807) (h2 : -9223372036854775808 ≤ d) (h3 : d ≤ 9223372036854775807) :
    Calls Tryz.prog 26 #[.int .i64 c, .int .i64 d] w fun e w' => ∃ x y : Int, e = .returned (.tuple #[.int .i64 x, .int .i64 y]) ∧ 0 ≤ x ∧ x ≤ y ∧ y ≤ 999 ∧ w' = w := by
  obtain ⟨x, hx⟩ : ∃ x, pck c 1000 = x := ⟨_, rfl⟩
  have hx1 := pck_in (c := c) (n := 1000) (by omega)
  obtain ⟨y, hy⟩ : ∃ y, pck d (1000 - x) = y := ⟨_, rfl⟩
  have hy1 := pck_in (c := d) (n := 1000 - x) (by omega)
  have Hp1 := hide (pick_any c 1000 w h0 h1 (by omega) (by omega))
  have Hp2 := hide (pick_any d (1000 - x) w h2 h3 (by omega) (by omega))
  rw [hx] at hx1 Hp1
  rw [hy] at hy1 Hp2
  clear hx hy
  go_enter Tryz.func26, Tryz.ntmps26
  go_wp2_with fail
  refine (unhide Hp1).mono ?_
  rintro e w1 ⟨rfl, rfl⟩
  go_wp2_with fail
  refine (unhide Hp2).mono ?_
  rintro e w2 ⟨rfl, rfl⟩
  go_wp2_with fail
  go_ret2
  exact ⟨x, x + y, rfl, by omega, by omega, by omega, rfl⟩

set_option maxRecDepth 100000 in
set_option maxHeartbeats 1000000 in
theorem kperiod_any (x y : Int) (w : World) (hx0 : 0 ≤ x) (hx1 : x ≤ 999) (hy0 : 0 ≤ y) (hy1 : y ≤ 999) (ht : Tab w) :
    Calls Tryz.prog 28 #[.int .i64 x, .int .i64 y] w fun e w' => ∃ u : ByteArray, e = .returned (.string u) ∧ L u = Lib.itoa x ++ 45 :: Lib.itoa y ∧ u.size ≤ 7 ∧ Below w.heap.size w w' := by
  have Ht := hide ht
  have hd1 := day_dec hx0 hx1
  have hd2 := day_dec hy0 hy1
  have Hd1 := hide hd1.1
  have Hd2 := hide hd2.1
  clear ht hd1 hd2
  go_enter Tryz.func28, Tryz.ntmps28
  go_wp2_with fail
  refine (itoa_any x _ (by omega) (by omega) (unhide Ht)).mono ?_
  rintro e w1 ⟨t1, rfl, h1, hb1⟩
  have hs1 : t1.size ≤ 3 := by rw [size_L, h1]; exact (unhide Hd1).2.1
  have Hb1 := hide hb1
  have H1 := hide h1
  clear h1 hb1
  go_wp2_with fail
  refine (itoa_any y _ (by omega) (by omega) ((unhide Ht).below (unhide Hb1))).mono ?_
  rintro e w2 ⟨t2, rfl, h2, hb2⟩
  have hs2 : t2.size ≤ 3 := by rw [size_L, h2]; exact (unhide Hd2).2.1
  have hs12 : (t1 ++ ⟨#[45]⟩ : ByteArray).size ≤ 4 := by rw [ByteArray.size_append]; show t1.size + 1 ≤ 4; omega
  have Hb2 := hide ((unhide Hb1).then hb2)
  have H2 := hide h2
  clear h2 hb2
  go_wp2_with fail
  go_ret
  refine ⟨_, rfl, ?_, ?_, unhide Hb2⟩
  · rw [L_append, L_append, unhide H1, unhide H2]
    simp [L]
  · rw [ByteArray.size_append]; omega

end Go.Proofs.YtdchbenfccofpaaGreatDoor
namespace Db
open Go

def b2 (b : Bool) : Int := if b then 1 else 0
/-- The sum over the accounts right below a, of those below m. -/
def chSum (acs : List Ac) (a : Int) (F : Nat → Int) : Nat → Int
  | 0 => 0
  | m + 1 => chSum acs a F m + (if 1 ≤ m ∧ (acs.getD m (-2, false)).1 = a then F m else 0)
theorem chSum_congr {acs : List Ac} {a : Int} {F G : Nat → Int} : ∀ (m : Nat), (∀ c, c < m → F c = G c) → chSum acs a F m = chSum acs a G m := by
  intro m
  induction m with
  | zero => intro _; rfl
  | succ m ih => intro h; simp only [chSum]; rw [ih (fun c hc => h c (by omega)), h m (by omega)]
theorem chSum_add {acs : List Ac} {a : Int} {F G : Nat → Int} (m : Nat) : chSum acs a (fun c => F c + G c) m = chSum acs a F m + chSum acs a G m := by
  induction m with
  | zero => rfl
  | succ m ih => simp only [chSum]; rw [ih]; split <;> omega
theorem chSum_mul {acs : List Ac} {a x : Int} {F : Nat → Int} (m : Nat) : chSum acs a (fun c => F c * x) m = chSum acs a F m * x := by
  induction m with
  | zero => simp [chSum]
  | succ m ih => simp only [chSum]; rw [ih]; split <;> simp [Int.add_mul]
theorem chSum_zero {acs : List Ac} {a : Int} {F : Nat → Int} : ∀ (m : Nat), (∀ c, c < m → 1 ≤ c → (acs.getD c (-2, false)).1 = a → F c = 0) → chSum acs a F m = 0 := by
  intro m
  induction m with
  | zero => intro _; rfl
  | succ m ih =>
    intro h
    simp only [chSum]
    rw [ih (fun c hc => h c (by omega))]
    split
    · rename_i hm; rw [h m (by omega) hm.1 hm.2]; rfl
    · rfl
theorem chSum_one {acs : List Ac} {a : Int} (l : Nat) (h1 : 1 ≤ l) : ∀ (m : Nat), chSum acs a (fun c => if c = l then 1 else 0) m = if l < m ∧ (acs.getD l (-2, false)).1 = a then 1 else 0 := by
  intro m
  induction m with
  | zero => simp [chSum]
  | succ m ih =>
    simp only [chSum]
    rw [ih]
    by_cases hm : m = l
    · subst hm
      by_cases ha : (acs.getD m (-2, false)).1 = a
      · rw [if_neg (by omega), if_pos ⟨h1, ha⟩, if_pos rfl, if_pos ⟨by omega, ha⟩]; rfl
      · rw [if_neg (by omega), if_neg (fun h => ha h.2), if_neg (fun h => ha h.2)]; rfl
    · have h2 : (if 1 ≤ m ∧ (acs.getD m (-2, false)).1 = a then (if m = l then (1 : Int) else 0) else 0) = 0 := by rw [if_neg hm]; split <;> rfl
      rw [h2, Int.add_zero]
      by_cases hl : l < m ∧ (acs.getD l (-2, false)).1 = a
      · rw [if_pos hl, if_pos ⟨by omega, hl.2⟩]
      · rw [if_neg hl, if_neg (fun h => hl ⟨by omega, h.2⟩)]
/-- What is above an account has smaller numbers. -/
theorem wth_low {acs : List Ac} (ho : ∀ (i : Nat) c, acs[i]? = some c → c.1 < i) (n : Int) : ∀ (f : Nat) (a : Int), a < n → a < acs.length → wth acs n f a = false := by
  intro f
  induction f with
  | zero => intro a _ _; rfl
  | succ f ih =>
    intro a hn hl
    simp only [wth]
    by_cases h0 : a < 0
    · rw [if_pos h0]
    · rw [if_neg h0, if_neg (by simp; omega)]
      obtain ⟨c, hc⟩ : ∃ c, acs[a.toNat]? = some c := ⟨acs[a.toNat]'(by omega), List.getElem?_eq_getElem (by omega)⟩
      have := ho _ _ hc
      rw [List.getD_eq_getElem?_getD, hc, Option.getD_some]
      exact ih c.1 (by omega) (by omega)
theorem wth_up {s : Bk} (hg : BkGood s) {l : Nat} {c : Ac} (hc : s.acs[l]? = some c) (n : Int) (hn : ¬ (l : Int) = n) : wth s.acs n 16 l = wth s.acs n 16 c.1 := by
  have hl : l < s.acs.length := (List.getElem?_eq_some_iff.1 hc).1
  have hf := hg.few
  have ho := hg.ord _ _ hc
  have e : wth s.acs n 16 l = wth s.acs n 15 c.1 := by
    show (if (l : Int) < 0 then false else if (l : Int) == n then true else wth s.acs n 15 (s.acs.getD (l : Int).toNat (0, false)).1) = _
    rw [if_neg (by omega), if_neg (by simpa using hn), Int.toNat_natCast, List.getD_eq_getElem?_getD, hc, Option.getD_some]
  rw [e]
  exact wth_more s.acs n hg.ord 15 16 c.1 (by omega) (by omega) (by omega)
/-- Each account is one of: this one; one below one that is right below it; none of these. -/
theorem wth_tree {s : Bk} (hg : BkGood s) (hr : Root s) (a : Nat) (ha : a < s.acs.length) : ∀ (l : Nat), l < s.acs.length → b2 (wth s.acs a 16 l) = b2 ((l : Int) == a) + chSum s.acs a (fun c => b2 (wth s.acs c 16 l)) s.acs.length := by
  intro l
  induction l using Nat.strongRecOn with
  | ind l ih =>
    intro hl
    obtain ⟨c, hc⟩ : ∃ c, s.acs[l]? = some c := ⟨s.acs[l], List.getElem?_eq_getElem hl⟩
    have hf := hg.few
    have hgd : ∀ k : Nat, ∀ d : Ac, s.acs[k]? = some d → s.acs.getD k (-2, false) = d := fun k d h => by rw [List.getD_eq_getElem?_getD, h, Option.getD_some]
    by_cases hla : l = a
    · subst hla
      have h1 : wth s.acs l 16 l = true := by
        show (if (l : Int) < 0 then false else if (l : Int) == l then true else _) = true
        rw [if_neg (by omega), if_pos (by simp)]
      have h2 : chSum s.acs l (fun c => b2 (wth s.acs c 16 l)) s.acs.length = 0 := chSum_zero _ fun k hk h1 hp => by
        obtain ⟨d, hd⟩ : ∃ d, s.acs[k]? = some d := ⟨s.acs[k], List.getElem?_eq_getElem hk⟩
        rw [hgd k d hd] at hp
        have := hg.ord _ _ hd
        rw [wth_low hg.ord (k : Int) 16 (l : Int) (by omega) (by omega)]; rfl
      rw [h1, h2]
      simp [b2]
    · have h1 := wth_up hg hc (a : Int) (by omega)
      have h3 : ((l : Int) == (a : Int)) = false := by simp; omega
      by_cases h0 : l = 0
      · subst h0
        have hc0 := hg.ord _ _ hc
        have h2 : wth s.acs a 16 c.1 = false := wth_low hg.ord (a : Int) 16 c.1 (by omega) (by omega)
        have h4 : chSum s.acs a (fun c => b2 (wth s.acs c 16 ((0 : Nat) : Int))) s.acs.length = 0 := chSum_zero _ fun k hk h1 _ => by
          rw [wth_low hg.ord (k : Int) 16 ((0 : Nat) : Int) (by omega) (by omega)]; rfl
        rw [h1, h2, h3, h4]; rfl
      · have hp0 := hr.par l c (by omega) hc
        have hpl := hg.ord _ _ hc
        obtain ⟨p, hp⟩ : ∃ p : Nat, c.1 = p := ⟨c.1.toNat, by omega⟩
        have h4 := ih p (by omega) (by omega)
        have h5 : chSum s.acs a (fun k => b2 (wth s.acs k 16 l)) s.acs.length = chSum s.acs a (fun k => b2 (wth s.acs k 16 p) + (if k = l then 1 else 0)) s.acs.length := chSum_congr _ fun k hk => by
          by_cases hkl : k = l
          · subst hkl
            have h6 : wth s.acs k 16 k = true := by
              show (if (k : Int) < 0 then false else if (k : Int) == k then true else _) = true
              rw [if_neg (by omega), if_pos (by simp)]
            rw [h6, wth_low hg.ord (k : Int) 16 (p : Int) (by omega) (by omega)]
            simp [b2]
          · rw [wth_up hg hc (k : Int) (by omega), hp]
            simp [hkl]
        rw [h1, hp, h4, h5, chSum_add, chSum_one l (by omega), h3, hgd l c hc]
        by_cases hpa : c.1 = (a : Int)
        · have h7 : ((p : Int) == (a : Int)) = true := by simp; omega
          rw [h7, if_pos ⟨hl, hpa⟩]
          simp [b2]; omega
        · have h7 : ((p : Int) == (a : Int)) = false := by simp; omega
          rw [h7, if_neg (by simp [hpa])]
          simp [b2]
theorem tkL_b2 (q : Int → Bool) (l : Ln) (r : List Ln) : (tkL q (l :: r)).1 = b2 (q l.1) * l.2 + (tkL q r).1 ∧ (tkL q (l :: r)).2 = b2 (q l.1) + (tkL q r).2 := by
  simp only [tkL]
  cases q l.1 <;> simp [b2]
theorem tkL_tree {s : Bk} (hg : BkGood s) (hr : Root s) (a : Nat) (ha : a < s.acs.length) (ls : List Ln) (hl : ∀ l ∈ ls, 0 < l.1 ∧ l.1 < s.acs.length) :
    (tkL (wth s.acs a 16) ls).1 = (tkL (fun x => x == (a : Int)) ls).1 + chSum s.acs a (fun c => (tkL (wth s.acs c 16) ls).1) s.acs.length ∧
    (tkL (wth s.acs a 16) ls).2 = (tkL (fun x => x == (a : Int)) ls).2 + chSum s.acs a (fun c => (tkL (wth s.acs c 16) ls).2) s.acs.length := by
  induction ls with
  | nil =>
    have h0 : chSum s.acs a (fun _ => 0) s.acs.length = 0 := chSum_zero _ (fun c _ _ _ => rfl)
    exact ⟨by simpa [tkL] using h0.symm, by simpa [tkL] using h0.symm⟩
  | cons l r ih =>
    obtain ⟨h1, h2⟩ := ih (fun x hx => hl x (by simp [hx]))
    have h0 := hl l (by simp)
    have h3 := wth_tree hg hr a ha l.1.toNat (by omega)
    rw [show ((l.1.toNat : Nat) : Int) = l.1 by omega] at h3
    constructor
    · rw [(tkL_b2 _ l r).1, (tkL_b2 _ l r).1, h1, h3]
      rw [chSum_congr (G := fun c => b2 (wth s.acs c 16 l.1) * l.2 + (tkL (wth s.acs c 16) r).1) _ (fun c _ => (tkL_b2 _ l r).1), chSum_add, chSum_mul, Int.add_mul]
      omega
    · rw [(tkL_b2 _ l r).2, (tkL_b2 _ l r).2, h2, h3]
      rw [chSum_congr (G := fun c => b2 (wth s.acs c 16 l.1) + (tkL (wth s.acs c 16) r).2) _ (fun c _ => (tkL_b2 _ l r).2), chSum_add]
      omega
theorem tkT_tree {s : Bk} (hg : BkGood s) (hr : Root s) (a : Nat) (ha : a < s.acs.length) (x y : Int) :
    (tkT (wth s.acs a 16) x y s.txs).1 = (tkT (fun z => z == (a : Int)) x y s.txs).1 + chSum s.acs a (fun c => (tkT (wth s.acs c 16) x y s.txs).1) s.acs.length ∧
    (tkT (wth s.acs a 16) x y s.txs).2 = (tkT (fun z => z == (a : Int)) x y s.txs).2 + chSum s.acs a (fun c => (tkT (wth s.acs c 16) x y s.txs).2) s.acs.length := by
  have key : ∀ ts : List Tn, (∀ t ∈ ts, ∀ l ∈ t.2.2, 0 < l.1 ∧ l.1 < s.acs.length) →
      (tkT (wth s.acs a 16) x y ts).1 = (tkT (fun z => z == (a : Int)) x y ts).1 + chSum s.acs a (fun c => (tkT (wth s.acs c 16) x y ts).1) s.acs.length ∧
      (tkT (wth s.acs a 16) x y ts).2 = (tkT (fun z => z == (a : Int)) x y ts).2 + chSum s.acs a (fun c => (tkT (wth s.acs c 16) x y ts).2) s.acs.length := by
    intro ts
    induction ts with
    | nil =>
      intro _
      have h0 : chSum s.acs a (fun _ => 0) s.acs.length = 0 := chSum_zero _ (fun c _ _ _ => rfl)
      exact ⟨by simpa [tkT] using h0.symm, by simpa [tkT] using h0.symm⟩
    | cons t r ih =>
      intro h
      obtain ⟨h1, h2⟩ := ih (fun z hz => h z (by simp [hz]))
      by_cases hd : x ≤ t.2.1 ∧ t.2.1 ≤ y
      · obtain ⟨h3, h4⟩ := tkL_tree hg hr a ha t.2.2 (h t (by simp))
        simp only [tkT, if_pos hd]
        rw [chSum_add, chSum_add, h1, h2, h3, h4]
        constructor <;> omega
      · simp only [tkT, if_neg hd]
        exact ⟨h1, h2⟩
  refine key s.txs fun t ht l hl => ?_
  exact ⟨((hg.tx t ht).2.2.2.2.2 l hl).1, hg.acc t ht l hl⟩
/-- An account's digits. -/
theorem acc_dec {n : Int} (h0 : 0 ≤ n) (h1 : n < 100) : 1 ≤ (Lib.itoa n).length ∧ (Lib.itoa n).length ≤ 2 ∧ (∀ c ∈ Lib.itoa n, digB c.toNat = true) ∧ val (Lib.itoa n) = n := by
  have hd := day_dec h0 (by omega)
  refine ⟨hd.1.1, ?_, hd.1.2.2, hd.2⟩
  obtain ⟨k, rfl⟩ : ∃ k : Nat, n = k := ⟨n.toNat, by omega⟩
  have hi : Lib.itoa (k : Int) = Lib.decDigits k := by unfold Lib.itoa; rw [if_neg (by omega)]; simp
  rw [hi]
  by_cases hk : 1 ≤ k
  · have := ((dec_facts k).2.2.2 hk).1
    rcases Nat.lt_or_ge 2 (Lib.decDigits k).length with h2 | h2
    · exfalso
      have h3 : 10 ^ 2 ≤ 10 ^ ((Lib.decDigits k).length - 1) := Nat.pow_le_pow_right (by omega) (by omega)
      omega
    · exact h2
  · obtain rfl : k = 0 := by omega
    rw [Lib.decDigits_one (by omega)]; simp
end Db
namespace Go.Proofs.YtdchbenfccofpaaGreatDoor
open Go.RowKit Db

set_option maxHeartbeats 400000 in
theorem ksplit_any (s : ByteArray) (c : UInt8) (w : World) (hs : s.size ≤ 50000) :
    Calls Tryz.prog 60 #[.string s, .int .u8 (c.toNat : Int)] w fun e w' => ∃ v : Value, ∃ ss : List ByteArray, e = .returned v ∧ ss.map L = split (L s) c ∧
      w'.ownsRow w.heap.size 9 1 v ss.length (ss.map Value.string) ∧ Below w.heap.size w w' := by
  obtain ⟨i, hi, hz0, hz1, hz2⟩ := info_parts info_string
  go_enter Tryz.func60, Tryz.ntmps60
  go_wp2
  go_loopw [5, 6, 7] (fun v f i wr => ∃ k fr : Nat, ∃ ss : List ByteArray, fr ≤ k ∧ k ≤ s.size ∧ i = .int .i64 k ∧ f = .int .i64 fr ∧ ss.length ≤ k ∧
      Hid (splitGo c (ss.map L) (L (s.extract fr k)) ((L s).drop k) = split (L s) c) ∧ Hid (wr.ownsRow w.heap.size 9 1 v ss.length (ss.map Value.string)) ∧ Hid (Below w.heap.size w wr)) (fun _ _ i _ => s.size - (intOf i).toNat)
  case atStart => exact ⟨0, 0, [], by omega, by omega, rfl, rfl, by simp, hide (by rw [L_extract]; rfl), hide (World.ownsRow_nil _ _ _ _), hide (Below.refl _ _)⟩
  case round =>
    obtain ⟨k, fr, ss, hfr, hk, rfl, rfl, hss, Hs, Ho, Hb⟩ := hrel
    have hsz := (unhide Hb).size
    by_cases hlt : k < s.size
    · by_cases hc : s[k] = c
      · have hc' : ((s[k].toNat : Int) == (c.toNat : Int)) = true := by rw [hc]; simp
        have HC := hide hc
        clear hc
        go_wp2_with (first
          | (at_builtin; refine wpList_append_own _ rfl _ _ 115 rfl w.heap.size 9 i (.string ⟨#[]⟩) 1 16 Tryz.underlying115 hi hz0 hz1 hz2 rfl (by decide) _ _ _ rfl ((unhide Ho).alloc _) ⟨wr.heap.size, 0, none⟩ 1 1 [.string (s.extract fr k)] rfl rfl (cell_one_new _ _ _) (fun x hx => by simp at hx; subst hx; rfl) (by unfold maxLen; omega) (by omega) (by simp; omega) ?_; intro v' w2 hown2 hgr2 _))
        have Hown := hide hown2
        have Hgr := hide hgr2
        clear hown2 hgr2
        go_wp2
        go_roundw
        case rel =>
          refine ⟨k + 1, k + 1, ss ++ [s.extract fr k], by omega, by omega, by go_num, by go_num, by simp; omega, ?_, ?_, ?_⟩
          · show splitGo _ _ _ _ = _
            rw [← unhide Hs, split_cut s c _ fr k hlt (unhide HC)]; simp
          · show World.ownsRow _ _ _ _ _ _ _
            simpa using unhide Hown
          · exact ((unhide Hb).alloc hsz _).grown (unhide Hgr) (by simp; omega) (fun g hg => ((unhide Ho).lt g hg).1)
        case measure => simp [intOf]; omega
      · have hc' : ((s[k].toNat : Int) == (c.toNat : Int)) = false := by
          rw [beq_eq_false_iff_ne]; intro h; exact hc (UInt8.toNat_inj.1 (by omega))
        go_wp2
        go_roundw
        case rel =>
          refine ⟨k + 1, fr, ss, by omega, by omega, by go_num, rfl, by omega, ?_, Ho, Hb⟩
          show splitGo _ _ _ _ = _
          rw [← unhide Hs, split_step s c _ fr k hfr hlt hc]
        case measure => simp [intOf]; omega
    · have hk' : k = s.size := by omega
      subst hk'
      clear hk hlt
      go_wp2_with (first
          | (at_builtin; refine wpList_append_own _ rfl _ _ 115 rfl w.heap.size 9 i (.string ⟨#[]⟩) 1 16 Tryz.underlying115 hi hz0 hz1 hz2 rfl (by decide) _ _ _ rfl ((unhide Ho).alloc _) ⟨wr.heap.size, 0, none⟩ 1 1 [.string (s.extract fr s.size)] rfl rfl (cell_one_new _ _ _) (fun x hx => by simp at hx; subst hx; rfl) (by unfold maxLen; omega) (by omega) (by simp; omega) ?_; intro v' w2 hown2 hgr2 _))
      have Hown := hide hown2
      have Hgr := hide hgr2
      clear hown2 hgr2
      go_wp2
      go_ret
      refine ⟨v', ss ++ [s.extract fr s.size], rfl, ?_, ?_, ?_⟩
      · rw [← unhide Hs, L_drop_end s _ (Nat.le_refl _)]; simp [splitGo]
      · simpa using unhide Hown
      · exact ((unhide Hb).alloc hsz _).grown (unhide Hgr) (by simp; omega) (fun g hg => ((unhide Ho).lt g hg).1)

end Go.Proofs.YtdchbenfccofpaaGreatDoor
namespace Go.Proofs.YtdchbenfccofpaaGreatDoor
open Go.RowKit Db

theorem kpow_le (k : Nat) (h : k ≤ 18) : pow10 k ≤ 1000000000000000000 := by
  have : pow10 18 = 1000000000000000000 := by decide
  have key : ∀ d j : Nat, j + d = 18 → pow10 j ≤ pow10 18 := by
    intro d
    induction d with
    | zero => intro j hj; rw [show j = 18 by omega]; exact Int.le_refl _
    | succ d ih => intro j hj; have := ih (j + 1) (by omega); rw [pow10_succ] at this; have := pow10_pos j; omega
  have := key (18 - k) k (by omega)
  omega
theorem kempty {s : ByteArray} (h : 0 < s.size) : s.toList.isEmpty = false := by
  rw [ByteArray.toList_eq]
  cases hl : s.data.toList with
  | nil =>
    have := L_length s
    unfold L at this
    rw [hl] at this
    simp at this
    omega
  | cons _ _ => rfl

set_option maxRecDepth 100000 in
set_option maxHeartbeats 4000000 in
/-- The number that digits are, with a sign ahead or not. -/
theorem knumber_any (neg : Bool) (t : ByteArray) (ds : List UInt8) (w : World) (hL : L t = (if neg then [45] else []) ++ ds) (hd : ∀ c ∈ ds, digB c.toNat = true) (h1 : 1 ≤ ds.length) (h18 : ds.length ≤ 18) :
    Calls Tryz.prog 61 #[.string t] w fun e w' => e = .returned (.tuple #[.int .i64 (if neg then - val ds else val ds), .bool true]) ∧ w' = w := by
  have hz : 0 < t.size := by rw [size_L, hL]; simp; omega
  obtain ⟨s, hs⟩ : ∃ s : ByteArray, L s = ds := ⟨⟨ds.toArray⟩, L_list ds⟩
  have hss : s.size = ds.length := by rw [size_L, hs]
  have hsp : 0 < s.size := by omega
  have hne := kempty hsp
  have hs18 : s.size ≤ 18 := by omega
  have hneg : (neg = true ∧ t[0].toNat = 45 ∧ t.extract 1 t.size = s) ∨ (neg = false ∧ ¬ t[0].toNat = 45 ∧ t = s) := by
    have h0 := L_drop t 0 hz
    rw [List.drop_zero] at h0
    cases neg with
    | true =>
      left
      rw [h0] at hL
      simp only [if_true, List.singleton_append, List.cons.injEq] at hL
      refine ⟨rfl, by rw [hL.1]; rfl, L_inj ?_⟩
      rw [L_extract, hs, ← hL.2, List.take_of_length_le (by rw [List.length_drop, L_length]; omega)]
    | false =>
      right
      have hL' : L t = ds := by simpa using hL
      refine ⟨rfl, fun e => ?_, L_inj (by rw [hL', hs])⟩
      have := hd t[0] (by rw [← hL', h0]; simp)
      unfold digB at this
      simp at this
      omega
  have Hd : Hid (∀ c ∈ L s, digB c.toNat = true) := by rw [hs]; exact hd
  obtain ⟨r, hr⟩ : ∃ r, val ds = r := ⟨_, rfl⟩
  have Hr : Hid (val (L s) = r) := by rw [hs]; exact hr
  rw [hr]
  clear hL hd hs hss hr h1 h18
  rcases hneg with ⟨rfl, h45, he⟩ | ⟨rfl, h45, rfl⟩
  · have h45i : (t[0].toNat : Int) = 45 := by omega
    simp only [if_true]
    go_enter Tryz.func61, Tryz.ntmps61
    go_wp2_with fail
    go_loopg [5, 6] s.size (fun m tv i wr => ∃ k : Nat, ∃ x : Nat, k ≤ s.size ∧ m = s.size - k ∧ i = .int .i64 k ∧ tv = .int .i64 (x : Int) ∧ (x : Int) < pow10 k ∧ Hid (val (L s) = valGo (x : Int) ((L s).drop k)) ∧ wr = w)
    case atStart => exact ⟨0, 0, by omega, rfl, rfl, rfl, by decide, rfl, rfl⟩
    case round =>
      obtain ⟨k, x, hk, rfl, rfl, rfl, hx, Hv, rfl⟩ := hrel
      by_cases hlk : k < s.size
      · have hp := kpow_le k (by omega)
        have hp1 := kpow_le (k + 1) (by omega)
        have hp2 := pow10_succ k
        have hdr := L_drop s k hlk
        obtain ⟨c, hc⟩ : ∃ c, s[k] = c := ⟨_, rfl⟩
        rw [hc] at hdr
        have hdg := unhide Hd c (List.mem_of_mem_drop (by rw [hdr]; simp))
        have h48 : 48 ≤ c.toNat ∧ c.toNat ≤ 57 := by unfold digB at hdg; simp at hdg; omega
        have hcn : s[k].toNat = c.toNat := by rw [hc]
        have hw1 : IntKind.i64.wrap (10 * (x : Int)) = 10 * (x : Int) := by rw [IntKind.wrap_i64]; omega
        have hw4 : IntKind.u8.wrap ((c.toNat : Int) - 48) = (c.toNat : Int) - 48 := by unfold IntKind.wrap; simp [IntKind.bits, IntKind.signed]; omega
        obtain ⟨y, hy⟩ : ∃ y : Nat, 10 * (x : Int) + ((c.toNat : Int) - 48) = y := ⟨(10 * (x : Int) + ((c.toNat : Int) - 48)).toNat, by omega⟩
        have Hv2 : Hid (val (L s) = valGo (y : Int) ((L s).drop (k + 1))) := by show _ = _; rw [← hy, unhide Hv, hdr]; rfl
        have hyb : (y : Int) < pow10 (k + 1) := by omega
        have hw3 : IntKind.i64.wrap (10 * (x : Int) + ((c.toNat : Int) - 48)) = 10 * (x : Int) + ((c.toNat : Int) - 48) := by rw [IntKind.wrap_i64]; omega
        have Hy := hide hy
        have l1 : ¬ ((c.toNat : Int) < 48) := by omega
        have l2 : ¬ (57 < (c.toNat : Int)) := by omega
        clear hc hdg hp hp1 hp2 hdr hy
        go_wp2_with fail
        go_roundg (s.size - (k + 1))
        case measure => omega
        case rel => exact ⟨k + 1, y, by omega, rfl, by go_num, by rw [unhide Hy], hyb, unhide Hv2, rfl⟩
      · obtain rfl : k = s.size := by omega
        have hxr : (x : Int) = r := by rw [← unhide Hr, unhide Hv, L_drop_end s _ (Nat.le_refl _)]; rfl
        have hxb := kpow_le s.size hs18
        have hxm : (x : Int) ≤ 1000000000000000000 := by omega
        have hw5 : IntKind.i64.wrap (-(x : Int)) = -(x : Int) := by rw [IntKind.wrap_i64]; omega
        clear hxb hx
        go_wp2_with fail
        go_ret2
        exact ⟨by rw [← hxr]; rfl, rfl⟩
  · have h45i : ((t[0].toNat : Int) == 45) = false := by rw [beq_eq_false_iff_ne]; omega
    have h18d : decide ((18 : Int) < (t.size : Int)) = false := by rw [decide_eq_false_iff_not]; omega
    simp only [Bool.false_eq_true, if_false]
    go_enter Tryz.func61, Tryz.ntmps61
    go_wp2_with fail
    go_loopg [5, 6] t.size (fun m tv i wr => ∃ k : Nat, ∃ x : Nat, k ≤ t.size ∧ m = t.size - k ∧ i = .int .i64 k ∧ tv = .int .i64 (x : Int) ∧ (x : Int) < pow10 k ∧ Hid (val (L t) = valGo (x : Int) ((L t).drop k)) ∧ wr = w)
    case atStart => exact ⟨0, 0, by omega, rfl, rfl, rfl, by decide, rfl, rfl⟩
    case round =>
      obtain ⟨k, x, hk, rfl, rfl, rfl, hx, Hv, rfl⟩ := hrel
      by_cases hlk : k < t.size
      · have hp := kpow_le k (by omega)
        have hp1 := kpow_le (k + 1) (by omega)
        have hp2 := pow10_succ k
        have hdr := L_drop t k hlk
        obtain ⟨c, hc⟩ : ∃ c, t[k] = c := ⟨_, rfl⟩
        rw [hc] at hdr
        have hdg := unhide Hd c (List.mem_of_mem_drop (by rw [hdr]; simp))
        have h48 : 48 ≤ c.toNat ∧ c.toNat ≤ 57 := by unfold digB at hdg; simp at hdg; omega
        have hcn : t[k].toNat = c.toNat := by rw [hc]
        have hw1 : IntKind.i64.wrap (10 * (x : Int)) = 10 * (x : Int) := by rw [IntKind.wrap_i64]; omega
        have hw4 : IntKind.u8.wrap ((c.toNat : Int) - 48) = (c.toNat : Int) - 48 := by unfold IntKind.wrap; simp [IntKind.bits, IntKind.signed]; omega
        obtain ⟨y, hy⟩ : ∃ y : Nat, 10 * (x : Int) + ((c.toNat : Int) - 48) = y := ⟨(10 * (x : Int) + ((c.toNat : Int) - 48)).toNat, by omega⟩
        have Hv2 : Hid (val (L t) = valGo (y : Int) ((L t).drop (k + 1))) := by show _ = _; rw [← hy, unhide Hv, hdr]; rfl
        have hyb : (y : Int) < pow10 (k + 1) := by omega
        have hw3 : IntKind.i64.wrap (10 * (x : Int) + ((c.toNat : Int) - 48)) = 10 * (x : Int) + ((c.toNat : Int) - 48) := by rw [IntKind.wrap_i64]; omega
        have Hy := hide hy
        have l1 : ¬ ((c.toNat : Int) < 48) := by omega
        have l2 : ¬ (57 < (c.toNat : Int)) := by omega
        clear hc hdg hp hp1 hp2 hdr hy
        go_wp2_with fail
        go_roundg (t.size - (k + 1))
        case measure => omega
        case rel => exact ⟨k + 1, y, by omega, rfl, by go_num, by rw [unhide Hy], hyb, unhide Hv2, rfl⟩
      · obtain rfl : k = t.size := by omega
        have hxr : (x : Int) = r := by rw [← unhide Hr, unhide Hv, L_drop_end t _ (Nat.le_refl _)]; rfl
        have hxb := kpow_le t.size hs18
        have hxm : (x : Int) ≤ 1000000000000000000 := by omega
        clear hxb hx
        go_wp2_with fail
        go_ret2
        exact ⟨by rw [← hxr]; rfl, rfl⟩

end Go.Proofs.YtdchbenfccofpaaGreatDoor
namespace Go.Proofs.YtdchbenfccofpaaGreatDoor
open Go.RowKit Db

def cellsG (l : List Cl) : List Value := l.flatMap fun c => [.int .i64 (gst c.2), .int .i64 c.1]
theorem cellsG_snoc (l : List Cl) (c : Cl) : cellsG (l ++ [c]) = cellsG l ++ [.int .i64 (gst c.2), .int .i64 c.1] := by simp [cellsG]
theorem cellsG_append (p q : List Cl) : cellsG (p ++ q) = cellsG p ++ cellsG q := by simp [cellsG]
theorem cellsG_length (p : List Cl) : (cellsG p).length = p.length * 2 := by
  induction p with
  | nil => rfl
  | cons x t ih => show (_ :: _ :: cellsG t).length = _; simp [ih]; omega
/-- Rows of cells as they lie in the program's sheet. -/
structure GCells (w : World) (B : Nat) (vc : Value) (vs : List Value) (cells : List (List Cl)) : Prop where
  own : w.ownsRow B 202 1 vc vs.length vs
  len : vs.length = cells.length
  row : ∀ (i : Nat) v c, vs[i]? = some v → cells[i]? = some c → w.ownsRow B 205 2 v c.length (cellsG c)
theorem GCells.kept {w w' : World} {B : Nat} {vc : Value} {vs : List Value} {cells : List (List Cl)} (h : GCells w B vc vs cells) (hb : Below w.heap.size w w') : GCells w' B vc vs cells :=
  ⟨ownsRow_below h.own hb, h.len, fun i v c h1 h2 => ownsRow_below (h.row i v c h1 h2) hb⟩
theorem GCells.nil (w : World) (B : Nat) : GCells w B (.slice none 0 0) [] [] := ⟨World.ownsRow_nil _ _ _ _, rfl, by intro i v c h; simp at h⟩
/-- The sheet, as it lies at q: the periods, the ledger at p, the cells so far. -/
structure ShtAt (w : World) (q : Nat) (b : Bk) (pd : List (List UInt8 × List UInt8)) (cells : List (List Cl)) (p : Nat) (vp vc : Value) (vs : List Value) : Prop where
  blk : Blk w q #[vp, .pointer (some ⟨p, 0, none⟩), vc] 162
  led : ∃ B, Led w B p b
  per : ∃ B, w.ownsRow B 177 2 vp pd.length (cellsD pd)
  cs : GCells w (q + 1) vc vs cells
  wid : ∀ row ∈ cells, row.length = pd.length
  few : pd.length ≤ 4 ∧ cells.length ≤ 8
  ok : ∀ row ∈ cells, ∀ c ∈ row, ClOk c
theorem Led.kept {w w' : World} {B p : Nat} {s : Bk} (h : Led w B p s) (hb : Below w.heap.size w w') : Led w' B p s := by
  obtain ⟨a, c, d, k, h⟩ := h
  exact ⟨a, c, d, k, h.kept hb⟩
theorem ShtAt.kept {w w' : World} {q : Nat} {b : Bk} {pd : List (List UInt8 × List UInt8)} {cells : List (List Cl)} {p : Nat} {vp vc : Value} {vs : List Value} (h : ShtAt w q b pd cells p vp vc vs) (hb : Below w.heap.size w w') : ShtAt w' q b pd cells p vp vc vs :=
  ⟨h.blk.kept hb, (let ⟨B, hl⟩ := h.led; ⟨B, hl.kept hb⟩), (let ⟨B, hl⟩ := h.per; ⟨B, ownsRow_below hl hb⟩), h.cs.kept hb, h.wid, h.few, h.ok⟩
def Sht' (w : World) (q : Nat) (b : Bk) (pd : List (List UInt8 × List UInt8)) (cells : List (List Cl)) : Prop := ∃ p vp vc vs, ShtAt w q b pd cells p vp vc vs
theorem Sht'.kept {w w' : World} {q : Nat} {b : Bk} {pd : List (List UInt8 × List UInt8)} {cells : List (List Cl)} (h : Sht' w q b pd cells) (hb : Below w.heap.size w w') : Sht' w' q b pd cells := by
  obtain ⟨p, vp, vc, vs, h⟩ := h
  exact ⟨p, vp, vc, vs, h.kept hb⟩
theorem Sht'.good {w : World} {q : Nat} {b : Bk} {pd : List (List UInt8 × List UInt8)} {cells : List (List Cl)} (h : Sht' w q b pd cells) : BkGood b := by
  obtain ⟨_, _, _, _, h⟩ := h
  obtain ⟨_, _, _, _, _, h⟩ := h.led
  exact h.good

set_option maxRecDepth 100000 in
set_option maxHeartbeats 1000000 in
theorem namesAccount_any (s n : Int) (w : World) :
    Calls Tryz.prog 131 #[.agg #[.int .u8 s, .int .i64 n]] w fun e w' => e = .returned (.bool (selB s)) ∧ Below w.heap.size w w' := by
  by_cases h1 : (s == 64) = true <;> by_cases h2 : (s == 33) = true
  all_goals
    go_enter Tryz.func131, Tryz.ntmps131
    go_wp2_with fail
    go_ret
    exact ⟨by simp_all [selB], (Below.refl _ _).alloc (Nat.le_refl _) _⟩

set_option maxRecDepth 100000 in
set_option maxHeartbeats 1000000 in
theorem has_any (B p : Nat) (s : Bk) (a : Int) (w : World) (h : Led w B p s) :
    Calls Tryz.prog 132 #[.pointer (some ⟨p, 0, none⟩), .int .i64 a] w fun e w' => e = .returned (.bool (ther s a)) ∧ w' = w := by
  obtain ⟨va, vt, tv, dk, h⟩ := h
  obtain ⟨g, cap, rfl, hg, hg'⟩ := ownsRow_some h.acs h.good.one
  have c0 := h.blk.cell 0
  have hpl := h.blk.lt
  simp only [List.getElem?_toArray, List.getElem?_cons_zero] at c0
  have hfew := h.good.few
  obtain ⟨r, hr⟩ : ∃ r, ther s a = r := ⟨_, rfl⟩
  rw [hr]
  unfold ther at hr
  clear h
  by_cases h1 : 0 ≤ a
  · by_cases h2 : a < s.acs.length
    · obtain rfl : r = true := by rw [← hr]; simp [h1, h2]
      clear hr
      go_enter Tryz.func132, Tryz.ntmps132
      go_wp2_with fail
      go_ret
      exact ⟨rfl, rfl⟩
    · obtain rfl : r = false := by rw [← hr]; simp [h2]
      clear hr
      go_enter Tryz.func132, Tryz.ntmps132
      go_wp2_with fail
      go_ret
      exact ⟨rfl, rfl⟩
  · obtain rfl : r = false := by rw [← hr]; simp [h1]
    clear hr
    go_enter Tryz.func132, Tryz.ntmps132
    go_wp2_with fail
    go_ret
    exact ⟨rfl, rfl⟩

set_option maxRecDepth 100000 in
set_option maxHeartbeats 1000000 in
theorem gText_any (c : Cl) (w : World) (hc : ClOk c) (ht : Tab w) :
    Calls Tryz.prog 134 #[gV c] w fun e w' => ∃ u : ByteArray, e = .returned (.string u) ∧ L u = cellT c ∧ u.size ≤ 21 ∧ Below w.heap.size w w' := by
  rcases hc with ⟨h0, hin⟩ | rfl | rfl
  · obtain ⟨a, b⟩ := c
    simp only at h0 hin
    subst h0
    unfold gV
    rw [gst_z0]
    have hr := inR_iff.1 hin
    have Ht := hide ht
    simp only
    clear hin ht
    go_enter Tryz.func134, Tryz.ntmps134
    go_wp2_with fail
    refine (itoa_any a _ hr.1 hr.2 ((unhide Ht).below (by exact (Below.refl _ _).alloc (Nat.le_refl _) _))).mono ?_
    rintro e w1 ⟨u, rfl, hu, hb⟩
    have Hu := hide hu
    have Hb : Hid (Below w.heap.size w w1) := ((Below.refl _ _).alloc (Nat.le_refl _) _).then' (by simp) hb
    clear hu hb
    go_wp2_with fail
    go_ret
    exact ⟨u, rfl, unhide Hu, itoa_size hr.1 hr.2 (unhide Hu), unhide Hb⟩
  all_goals
    unfold gV gst
    clear ht
    go_enter Tryz.func134, Tryz.ntmps134
    go_wp2_with fail
    go_ret
    exact ⟨_, rfl, rfl, by decide, (Below.refl _ _).alloc (Nat.le_refl _) _⟩

end Go.Proofs.YtdchbenfccofpaaGreatDoor
