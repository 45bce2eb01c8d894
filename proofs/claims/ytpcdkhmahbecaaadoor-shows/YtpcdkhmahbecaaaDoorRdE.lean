/- Walks of the reader: periods. -/
import Derived.Test.YtpcdkhmahbecaaaDoorRdD
namespace Go.Proofs.YtpcdkhmahbecaaaDoor
open Go.RowKit Db

theorem RdR.alloc {b : Nat} {t : ByteArray} {v v' : Value} {w w1 : World} {a : Nat} {ps : List Pt} (h : RdR b t v w w1 a v' ps) (o : Obj) : RdR b t v w (w1.alloc o) a v' ps :=
  h.trans (h.rd.below ((Below.refl _ _).alloc (Nat.le_refl _) o))
theorem RdR.grown {b : Nat} {t : ByteArray} {v v' : Value} {w w1 w2 : World} {a : Nat} {ps : List Pt} {row : Option Nat} (h : RdR b t v w w1 a v' ps) (hg : w1.grownBy w2 row) (hr : ∀ k, row = some k → w.heap.size ≤ k ∧ ¬ XR b v' k) : RdR b t v w w2 a v' ps := by
  refine ⟨⟨h.rd.blk.grown hg ?_, h.rd.own.kept hg ?_, h.rd.le, h.rd.cnt, h.rd.sz⟩, h.frm.grown hg h.frm.size (fun k hk => .inl (hr k hk).1), h.own⟩
  · intro e; exact (hr b e.symm).2 (.inl rfl)
  · cases hv : v'.ownBlock with
    | none => exact .inl rfl
    | some k => exact .inr (fun e => (hr k e.symm).2 (.inr hv.symm))

theorem cell_two_new' (w : World) (n : Nat) (hn : n = w.heap.size) (x y : Value) (t : TypeId) : ∀ j u, [x, y][j]? = some u → (w.alloc (.cells #[x, y] t)).cell? ((⟨n, 0, none⟩ : Addr).add j) = some u := by
  subst hn; exact cell_two_new w x y t
def cellsD (pd : List (List UInt8 × List UInt8)) : List Value := pd.flatMap fun p => [.int .i64 (val p.1), .int .i64 (val p.2)]
theorem cellsD_append (p q : List (List UInt8 × List UInt8)) : cellsD (p ++ q) = cellsD p ++ cellsD q := by simp [cellsD]
theorem info_period : (Tryd.prog.info? 70).map (fun i => (i.zero, i.size, i.bytes)) = some (some (.agg #[.int .i64 0, .int .i64 0]), 2, 16) := by kernel_rfl

theorem per_lt {t : ByteArray} {k k1 : Nat} {a b : List UInt8} (h : Per ((L t).drop k) true ((L t).drop k1) a b) (hk : k ≤ t.size) (hk1 : k1 ≤ t.size) : k < k1 := by
  obtain ⟨x, hx, h1, _⟩ := h
  have hb := (h1 rfl).2.2.1
  have hl := congrArg List.length hx
  simp only [List.length_append, List.length_drop, L_length] at hl
  have hn : 0 < x.length := by
    cases x with
    | nil => exact absurd hb (by simp [bare])
    | cons => simp
  omega
/-- Where no blank stands nothing is passed over. -/
theorem skp_same {t : ByteArray} {p p' : Nat} {x : List UInt8} (h : Skp t p p' x) (hb : ¬ hd ((L t).drop p) = 32) : (L t).drop p = (L t).drop p' := by
  have he := h.eq
  match x, h.bl with
  | [], _ => simpa using he
  | c :: r, hbl =>
    rw [he] at hb
    exact absurd (by have := hbl c (by simp); simp [hd]; omega) hb

/-- Where the loop over the periods stands. -/
def PLoop (l : List UInt8) (more : Bool) (l' : List UInt8) (pd : List (List UInt8 × List UInt8)) : Prop :=
  (more = true → PerSt l l' pd) ∧ (more = false → ∃ l1 pd0 a b y, PerSt l l1 pd0 ∧ Per l1 true (y ++ l') a b ∧ Blanks y ∧ ¬ hd l' = 32 ∧ ¬ hd l' = 44 ∧ pd = pd0 ++ [(a, b)])

set_option maxRecDepth 100000 in
set_option maxHeartbeats 2000000 in
theorem periods_any (b : Nat) (t : ByteArray) (p : Nat) (v : Value) (ps : List Pt) (w : World) (h : Rd w b t p v ps) :
    Calls Tryd.prog 45 #[.pointer (some ⟨b, 0, none⟩)] w fun e w' => ∃ ok vp p' pd, e = .returned (.tuple #[vp, .bool ok]) ∧ PerEnd ((L t).drop p) ok ((L t).drop p') pd ∧
      (ok = true → w'.ownsRow w.heap.size 70 2 vp pd.length (cellsD pd)) ∧ (ok = false → vp = .slice none 0 0) ∧ p ≤ p' ∧ RdR b t v w w' p' v ps := by
  obtain ⟨ii, hi, hz0, hz1, hz2⟩ := info_parts info_period
  have hsz := h.sz
  have Hfr := hide h.fresh
  have H := hide h
  clear h
  go_enter Tryd.func45, Tryd.ntmps45
  go_wp2_with fail
  go_loopg [4, 5] (2 * (t.size - p) + 1) (fun m vp mo wr => ∃ k, ∃ more : Bool, ∃ pd, p ≤ k ∧ k ≤ t.size ∧ m = 2 * (t.size - k) + (if more then 1 else 0) ∧ mo = .bool more ∧ pd.length ≤ k ∧ Hid (PLoop ((L t).drop p) more ((L t).drop k) pd) ∧
      Hid (wr.ownsRow w.heap.size 70 2 vp pd.length (cellsD pd)) ∧ Hid (RdR b t v w wr k v ps))
  case atStart => exact ⟨p, true, [], Nat.le_refl _, (unhide H).le, rfl, rfl, Nat.zero_le _, ⟨fun _ => PerSt.start _, (fun h0 => by cases h0)⟩, World.ownsRow_nil _ _ _ _, RdR.refl (unhide H)⟩
  case round =>
    obtain ⟨k, more, pd, hpk, hk, rfl, rfl, hpl, Hl, Ho, Hr⟩ := hrel
    have hwr := (unhide Hr).frm.size
    obtain ⟨aop, capp, hvp⟩ := ownsRow_form (unhide Ho)
    subst hvp
    cases more with
    | true =>
      go_wp2_with fail
      refine (period_any b t k v ps _ (unhide Hr).rd).mono ?_
      rintro e w1 ⟨ok, x, y, k1, da, db, rfl, hper, hval, hle, hr1⟩
      have H1 := hide ((unhide Hr).trans hr1)
      have Ho1 := hide (ownsRow_frm (unhide Ho) hr1.frm (fun j hj => ⟨((unhide Ho).lt j hj).2, unhide Hfr j ((unhide Ho).lt j hj).1⟩))
      have hk1 := hr1.rd.le
      have Hper := hide hper
      clear hr1 hper
      cases ok with
      | false =>
        clear hval
        go_wp2_with fail
        go_ret2
        exact ⟨false, _, k1, [], rfl, ((unhide Hl).1 rfl).no (unhide Hper) [], (fun h0 => by cases h0), fun _ => rfl, by omega, (unhide H1).alloc _⟩
      | true =>
        obtain ⟨rfl, rfl⟩ := hval rfl
        clear hval
        have hsz1 := (unhide H1).frm.size
        go_wp2_with (first
          | (at_builtin; refine wpList_append_own_at _ rfl (.tmp 18) (.tmp 20) 43 rfl w.heap.size 70 ii (.agg #[.int .i64 0, .int .i64 0]) 2 16 Tryd.underlying43 hi hz0 hz1 hz2 rfl (by decide) (.slice aop pd.length capp) pd.length _ rfl (((unhide Ho1).alloc _).alloc _) ⟨w1.heap.size + 1, 0, none⟩ 1 1 [.int .i64 (val da), .int .i64 (val db)] rfl rfl (cell_two_new' _ _ (by simp) _ _ _) (fun x hx => by simp at hx; rcases hx with rfl | rfl <;> rfl) (by unfold maxLen; omega) (by omega) (by simp; omega) ?_; intro vp' w5 hown5 hgr5 _ hat5; obtain ⟨gf, cf, rfl, hgf, hgf'⟩ := ownsRow_some hown5 (Nat.succ_pos _)))
        have Ho5 : Hid (w5.ownsRow w.heap.size 70 2 (.slice (some ⟨gf, 0, none⟩) (pd.length + 1) cf) (pd ++ [(da, db)]).length (cellsD (pd ++ [(da, db)]))) := by
          show World.ownsRow _ _ _ _ _ _ _
          rw [cellsD_append]
          simpa [cellsD] using hown5
        have H5 := hide ((((unhide H1).alloc _).alloc _).grown hgr5 (fun j hj => ⟨((unhide Ho1).lt j hj).1, unhide Hfr j ((unhide Ho1).lt j hj).1⟩))
        have Hl1 := hide ((unhide Hl).1 rfl)
        clear hown5 hgr5 hat5
        go_wp2_with fail
        refine (accept_any b t k1 v ps 44 _ (unhide H5).rd (by omega)).mono ?_
        rintro e w6 ⟨k2, x2, hs2, ⟨hn2, rfl, hr2⟩ | ⟨y2, hy2, hl2, rfl, hr2⟩⟩
        · have H6 := hide ((unhide H5).trans hr2)
          have Ho6 := hide (ownsRow_frm (unhide Ho5) hr2.frm (fun j hj => ⟨((unhide Ho5).lt j hj).2, unhide Hfr j ((unhide Ho5).lt j hj).1⟩))
          have hk2 := hr2.rd.le
          have Hs2 := hide hs2
          have Hn2 := hide hn2
          clear hs2 hn2 hr2
          go_wp2_with fail
          have hle2 := (unhide Hs2).le
          go_roundg (2 * (t.size - k2) + 0)
          case measure => simp; omega
          case rel =>
            refine ⟨k2, false, pd ++ [(da, db)], by omega, hk2, by simp, rfl, ?_, ⟨(fun h0 => by cases h0), fun _ => ⟨_, pd, da, db, x2, unhide Hl1, by rw [← (unhide Hs2).eq]; exact unhide Hper, (unhide Hs2).bl, (unhide Hs2).nb, unhide Hn2, rfl⟩⟩, unhide Ho6, unhide H6⟩
            have := per_lt (unhide Hper) hk hk1
            simp; omega
        · have H6 := hide ((unhide H5).trans hr2)
          have Ho6 := hide (ownsRow_frm (unhide Ho5) hr2.frm (fun j hj => ⟨((unhide Ho5).lt j hj).2, unhide Hfr j ((unhide Ho5).lt j hj).1⟩))
          have hk2 := hr2.rd.le
          have Hs2 := hide hs2
          have Hy2 := hide hy2
          have Hl2 := hide hl2
          clear hs2 hy2 hl2 hr2
          go_wp2_with fail
          have hle2 := (unhide Hs2).le
          go_roundg (2 * (t.size - (k2 + 1)) + 1)
          case measure => simp; omega
          case rel =>
            refine ⟨k2 + 1, true, pd ++ [(da, db)], by omega, hk2, by simp, rfl, by simp; omega, ⟨fun _ => (unhide Hl1).comma (c := y2) (y := x2) (by rw [← unhide Hl2, ← (unhide Hs2).eq]; exact unhide Hper) (unhide Hs2).bl (unhide Hy2), (fun h0 => by cases h0)⟩, unhide Ho6, unhide H6⟩
    | false =>
      obtain ⟨l1, pd0, da, db, y, hst, hper, hy, h32, h44, rfl⟩ := (unhide Hl).2 rfl
      have Hst := hide hst
      have Hper := hide hper
      have Hy := hide hy
      have H32 := hide h32
      have H44 := hide h44
      clear hst hper hy h32 h44
      go_wp2_with fail
      refine (accept_any b t k v ps 124 _ (unhide Hr).rd (by omega)).mono ?_
      rintro e w6 ⟨k2, x2, hs2, ⟨hn2, rfl, hr2⟩ | ⟨y2, hy2, hl2, rfl, hr2⟩⟩
      · have H6 := hide ((unhide Hr).trans hr2)
        have Hs2 := hide hs2
        have Hn2 := hide hn2
        clear hs2 hn2 hr2
        go_wp2_with fail
        go_ret2
        have hz := skp_same (unhide Hs2) (unhide H32)
        refine ⟨false, _, k2, [], rfl, ?_, (fun h0 => by cases h0), fun _ => rfl, by have := (unhide Hs2).le; omega, unhide H6⟩
        rw [hz] at Hper H32 H44
        exact (unhide Hst).nobar (unhide Hper) (unhide Hy) (unhide H32) (unhide H44) (unhide Hn2) []
      · have H6 := hide ((unhide Hr).trans hr2)
        have Ho6 := hide (ownsRow_frm (unhide Ho) hr2.frm (fun j hj => ⟨((unhide Ho).lt j hj).2, unhide Hfr j ((unhide Ho).lt j hj).1⟩))
        have Hs2 := hide hs2
        have Hy2 := hide hy2
        have Hl2 := hide hl2
        clear hs2 hy2 hl2 hr2
        go_wp2_with fail
        go_ret2
        have hz := skp_same (unhide Hs2) (unhide H32)
        refine ⟨true, .slice aop (pd0.length + 1) capp, k2 + 1, pd0 ++ [(da, db)], rfl, ?_, fun _ => (by have := unhide Ho6; simpa using this), (fun h0 => by cases h0), by have := (unhide Hs2).le; omega, unhide H6⟩
        rw [hz, unhide Hl2] at Hper
        exact (unhide Hst).bar (unhide Hper) (unhide Hy) (unhide Hy2)

end Go.Proofs.YtpcdkhmahbecaaaDoor
