/- Walks of the document's answer: reaches, joined, kind. -/
import Derived.Test.YtpcdkhmahbecaaaDoorRefB
import Derived.Test.YtpcdkhmahbecaaaDoorWld
import Derived.Test.YtpcdkhmahbecaaaDoorCoreC
import Derived.Test.YtpcdkhmahbecaaaDoorRefC0
namespace Go.Proofs.YtpcdkhmahbecaaaDoor
open Go.RowKit Db

set_option maxHeartbeats 1000000 in
theorem joined_any (o a b : Int) (w : World) (ho : opB o = true) (ha : 0 ≤ a ∧ a ≤ 2) (hb : 0 ≤ b ∧ b ≤ 2) :
    Calls Tryd.prog 61 #[.int .u8 o, .int .i64 a, .int .i64 b] w fun e w' => e = .returned (.int .i64 (joinK o a b)) ∧ w' = w := by
  simp [opB] at ho
  have ha' : a = 0 ∨ a = 1 ∨ a = 2 := by omega
  have hb' : b = 0 ∨ b = 1 ∨ b = 2 := by omega
  clear ha hb
  rcases ho with ((rfl | rfl) | rfl) | rfl <;> rcases ha' with rfl | rfl | rfl <;> rcases hb' with rfl | rfl | rfl
  all_goals
    go_enter Tryd.func61, Tryd.ntmps61
    go_wp2
    go_ret
    exact ⟨rfl, rfl⟩

theorem ret_bool {a b : Bool} (h : a = b) : Ending.returned (.bool a) = .returned (.bool b) := by rw [h]
theorem oldDig_at (s : ByteArray) (h : oldDig (L s)) : ∀ i (hi : i + 1 < s.size), oldB ((s[i]'(by omega)).toNat : Int) = true → digB (s[i + 1].toNat : Int) = true := by
  intro i hi
  have key : ∀ (l : List UInt8) (i : Nat), oldDig l → ∀ c d r, l.drop i = c :: d :: r → oldB c.toNat = true → digB d.toNat = true := by
    intro l
    induction l with
    | nil => intro i _ c d r e; simp at e
    | cons x t ih =>
      intro i ho c d r e hc
      cases i with
      | zero =>
        simp at e
        obtain ⟨rfl, rfl⟩ := e
        exact ho.1 hc
      | succ i => exact ih i ho.2 c d r (by simpa using e) hc
  exact key (L s) i h _ _ _ (by rw [L_drop s i (by omega), L_drop s (i + 1) hi])
theorem rch_step (s : ByteArray) (row : Int) (i : Nat) (h : i + 1 < s.size) : rch row ((L s).drop i) = ((oldB ((s[i]'(by omega)).toNat : Int) && decide (row ≤ (s[i + 1].toNat : Int) - 48)) || rch row ((L s).drop (i + 1))) := by
  rw [L_drop s i (by omega), L_drop s (i + 1) h]; rfl
theorem rch_end (s : ByteArray) (row : Int) (i : Nat) (h : s.size ≤ i + 1) : rch row ((L s).drop i) = false := by
  by_cases hi : i < s.size
  · rw [L_drop s i hi, L_drop_end s (i + 1) h]; simp [rch]
  · rw [L_drop_end s i (by omega)]; rfl

set_option maxHeartbeats 1000000 in
theorem reaches_any (s : ByteArray) (row : Int) (w : World) (hs : s.size ≤ 200) (hr : oldDig (L s)) :
    Calls Tryd.prog 30 #[.string s, .int .i64 row] w fun e w' => e = .returned (.bool (rch row (L s))) ∧ w' = w := by
  have Ho := hide (oldDig_at s hr)
  clear hr
  go_enter Tryd.func30, Tryd.ntmps30
  go_wp2
  go_loop [5] (fun i => ∃ k : Nat, k ≤ s.size ∧ i = .int .i64 k ∧ Hid (rch row ((L s).drop k) = rch row (L s))) (fun i => s.size - (intOf i).toNat)
  case atStart => exact ⟨0, Nat.zero_le _, rfl, hide rfl⟩
  case round =>
    obtain ⟨k, hk, rfl, Hu⟩ := hrel
    by_cases hlt : k + 1 < s.size
    · have Hst := hide (rch_step s row k hlt)
      by_cases ho : oldB (s[k].toNat : Int) = true
      · have hd := unhide Ho k hlt ho
        simp [digB] at hd
        obtain ⟨hd1, hd2⟩ := hd
        by_cases hge : row ≤ (s[k + 1].toNat : Int) - 48
        · have Hge := hide hge
          go_wp2_with (go_at_call 60; refine (older_any _ _).mono ?_; rintro e w' ⟨rfl, rfl⟩)
          go_ret
          exact ⟨by rw [← unhide Hu, unhide Hst, ho]; simp [unhide Hge], rfl⟩
        · have Hge := hide hge
          go_wp2_with (go_at_call 60; refine (older_any _ _).mono ?_; rintro e w' ⟨rfl, rfl⟩)
          go_round
          case rel => exact ⟨k + 1, by omega, by go_num, by show _ = _; rw [← unhide Hu, unhide Hst]; have := unhide Hge; simp; omega⟩
          case measure => simp [intOf]; omega
      · have ho' : oldB (s[k].toNat : Int) = false := by simpa using ho
        clear ho
        have Hst' : Hid (rch row ((L s).drop k) = rch row ((L s).drop (k + 1))) := by
          show _ = _
          rw [unhide Hst, ho']; simp
        go_wp2_with (go_at_call 60; refine (older_any _ _).mono ?_; rintro e w' ⟨rfl, rfl⟩)
        go_round
        case rel => exact ⟨k + 1, by omega, by go_num, by show _ = _; rw [← unhide Hu, unhide Hst']⟩
        case measure => simp [intOf]; omega
    · have Hend := hide (rch_end s row k (by omega))
      go_wp2
      go_ret
      exact ⟨ret_bool (by rw [← unhide Hu, unhide Hend]), rfl⟩

theorem size_of_L {s t : ByteArray} {l : List UInt8} (h : L t = l) (hl : l.length ≤ (L s).length) : t.size ≤ s.size := by
  rw [← L_length, ← L_length, h]; exact hl

theorem info_int : (Tryd.prog.info? 3).map (fun i => (i.zero, i.size, i.bytes)) = some (some (.int .i64 0), 1, 8) := by kernel_rfl

/-- What the kind of a row comes to. -/
def KindR (rows : List Int) (ps : List Pt) (k : Int) : Prop := 0 ≤ k ∧ k ≤ 2 ∧ ∀ q st, kEval rows (ps ++ q) st = kEval rows q (k :: st)

set_option maxHeartbeats 1000000 in
theorem kind_leaf (s : ByteArray) (ps : List Pt) (rows : List Int) (v : Value) (base : Nat) (w : World) (hs : s.size ≤ 200) (hcut : cut (L s) = (0, [], L s)) (hop : Opnd (L s) ps)
    (hn : ∀ p ∈ ps, oldB p.1 = true → p.2.toNat < rows.length) (hrows : ∀ x ∈ rows, 0 ≤ x ∧ x ≤ 2) (hown : w.ownsRow base 3 1 v rows.length (rows.map (.int .i64))) :
    Calls Tryd.prog 31 #[.string s, v] w fun e w' => ∃ k, e = .returned (.int .i64 k) ∧ KindR rows ps k ∧ ∃ m, w' = w.drewN m := by
  rcases hop with ⟨h1, h18, hdig, rfl⟩ | ⟨c, ds, he, h1, hdig, hsel, rfl⟩
  · -- a number
    have hz : 0 < s.size := by rw [← L_length]; omega
    have hd0 : digB (s[0].toNat : Int) = true := hdig _ (by rw [← L_get s 0 hz]; exact List.getElem_mem _)
    have Hk : Hid (KindR rows [(48, val (L s))] 2) := ⟨by omega, by omega, fun q st => kEval_leaf rows (48, val (L s)) q st rfl⟩
    have Hcut := hide hcut
    have n64 := dig_ne hd0 64 rfl
    have n33 := dig_ne hd0 33 rfl
    have n36 := dig_ne hd0 36 rfl
    have n60 := dig_ne hd0 60 rfl
    clear hcut h1 h18 hdig hn hrows hown hd0
    go_enter Tryd.func31, Tryd.ntmps31
    go_wp2_with fail
    refine (cut_any s _ hs).mono ?_
    rintro e w1 ⟨o, l, r, rfl, ⟨hco, hcl, hcr⟩, m, rfl⟩
    rw [unhide Hcut] at hco hcl hcr
    obtain rfl : r = s := L_inj hcr
    subst hco
    clear hcl hcr
    go_wp2_with fail
    go_ret
    exact ⟨2, rfl, unhide Hk, _, rfl⟩
  · have hz : 0 < s.size := by rw [← L_length, he]; simp
    have hc0 : s[0] = c := by
      have e1 := L_get? s 0 hz
      rw [he] at e1
      simpa using e1.symm
    have Hcut := hide hcut
    clear hcut
    rcases hsel with ⟨hsel, hds⟩ | ⟨hold, hds⟩
    · have hc : c.toNat = 64 ∨ c.toNat = 33 ∨ c.toNat = 35 := by simp [selB] at hsel; omega
      rcases hc with hc | hc | hc
      · have hx : (s[0].toNat : Int) = 64 := by rw [hc0]; omega
        have Hk : Hid (KindR rows [((c.toNat : Int), val ds)] 1) := by
          refine ⟨by omega, by omega, fun q st => ?_⟩
          rw [kEval_leaf rows _ q st (by show opdB (c.toNat : Int) = true; rw [hc]; rfl)]
          simp [leafK, hc]
        clear hn hrows hown hsel hds he hdig h1 hc hc0
        go_enter Tryd.func31, Tryd.ntmps31
        go_wp2_with fail
        refine (cut_any s _ hs).mono ?_
        rintro e w1 ⟨o, l, r, rfl, ⟨hco, hcl, hcr⟩, m, rfl⟩
        rw [unhide Hcut] at hco hcl hcr
        obtain rfl : r = s := L_inj hcr
        subst hco
        clear hcl hcr
        go_wp2_with fail
        go_ret
        exact ⟨1, rfl, unhide Hk, _, rfl⟩
      · have hx : (s[0].toNat : Int) = 33 := by rw [hc0]; omega
        have Hk : Hid (KindR rows [((c.toNat : Int), val ds)] 1) := by
          refine ⟨by omega, by omega, fun q st => ?_⟩
          rw [kEval_leaf rows _ q st (by show opdB (c.toNat : Int) = true; rw [hc]; rfl)]
          simp [leafK, hc]
        clear hn hrows hown hsel hds he hdig h1 hc hc0
        go_enter Tryd.func31, Tryd.ntmps31
        go_wp2_with fail
        refine (cut_any s _ hs).mono ?_
        rintro e w1 ⟨o, l, r, rfl, ⟨hco, hcl, hcr⟩, m, rfl⟩
        rw [unhide Hcut] at hco hcl hcr
        obtain rfl : r = s := L_inj hcr
        subst hco
        clear hcl hcr
        go_wp2_with fail
        go_ret
        exact ⟨1, rfl, unhide Hk, _, rfl⟩
      · have hx : (s[0].toNat : Int) = 35 := by rw [hc0]; omega
        have Hk : Hid (KindR rows [((c.toNat : Int), val ds)] 2) := by
          refine ⟨by omega, by omega, fun q st => ?_⟩
          rw [kEval_leaf rows _ q st (by show opdB (c.toNat : Int) = true; rw [hc]; rfl)]
          simp [leafK, hc, oldB]
        clear hn hrows hown hsel hds he hdig h1 hc hc0
        go_enter Tryd.func31, Tryd.ntmps31
        go_wp2_with fail
        refine (cut_any s _ hs).mono ?_
        rintro e w1 ⟨o, l, r, rfl, ⟨hco, hcl, hcr⟩, m, rfl⟩
        rw [unhide Hcut] at hco hcl hcr
        obtain rfl : r = s := L_inj hcr
        subst hco
        clear hcl hcr
        go_wp2_with fail
        go_ret
        exact ⟨2, rfl, unhide Hk, _, rfl⟩
    · obtain ⟨x, rfl⟩ : ∃ x, ds = [x] := List.length_eq_one_iff.1 hds
      have hz1 : 1 < s.size := by rw [← L_length, he]; simp
      have hx1 : s[1] = x := by
        have e1 := L_get? s 1 hz1
        rw [he] at e1
        simpa using e1.symm
      have hxd := hdig x (by simp)
      rw [← hx1] at hxd
      simp [digB] at hxd
      obtain ⟨hx48, hx57⟩ := hxd
      have hxv : val [x] = (s[1].toNat : Int) - 48 := by rw [hx1]; simp [val, valGo]
      have hi : ((s[1].toNat : Int) - (48 : Int)).toNat = s[1].toNat - 48 := by omega
      have hlt : s[1].toNat - 48 < rows.length := by
        have := hn _ (List.mem_singleton.2 rfl) hold
        simp only at this
        rw [hxv, hi] at this
        exact this
      obtain ⟨k, hk⟩ : ∃ k, rows[s[1].toNat - 48]? = some k := ⟨rows[s[1].toNat - 48], List.getElem?_eq_getElem hlt⟩
      have hkm := hrows k (List.mem_of_getElem? hk)
      have Hk : Hid (KindR rows [((c.toNat : Int), val [x])] k) := by
        refine ⟨hkm.1, hkm.2, fun q st => ?_⟩
        rw [kEval_leaf rows _ q st (by show opdB (c.toNat : Int) = true; unfold opdB; rw [hold]; simp)]
        unfold leafK
        have h64 : ((c.toNat : Int) == 64 || (c.toNat : Int) == 33) = false := by rw [old_ne hold 64 rfl, old_ne hold 33 rfl]; rfl
        rw [h64, hold]
        simp [hxv, hi, hk]
      rcases hown.2 with ⟨_, h0⟩ | ⟨g, cap, cur, rfl, hbg, hgg, hcap, hcm, hcs, htk⟩
      · omega
      have hcell := hown.cells (g := g) rfl (s[1].toNat - 48) (.int .i64 k) (by rw [List.getElem?_map, hk]; rfl)
      rw [Addr.add_lit] at hcell
      simp only [Nat.zero_add] at hcell
      have hlen : rows.length ≤ maxLen := Nat.le_trans hcap hcm
      unfold maxLen at hlen
      obtain ⟨nn, hnn⟩ : ∃ nn, rows.length = nn := ⟨_, rfl⟩
      rw [hnn] at hlt hlen ⊢
      have hlt' : (s[1].toNat : Int) - 48 < nn := by omega
      have hcc : (s[0].toNat : Int) = 36 ∨ (s[0].toNat : Int) = 60 := by rw [hc0]; simp [oldB] at hold; omega
      clear hn hrows hown hds he hdig h1 hold hc0 hx1 hxv hi hk hkm hgg hcs htk hcap hcm hbg hnn
      rcases hcc with hx | hx
      · 
        go_enter Tryd.func31, Tryd.ntmps31
        go_wp2_with fail
        refine (cut_any s _ hs).mono ?_
        rintro e w1 ⟨o, l, r, rfl, ⟨hco, hcl, hcr⟩, m, rfl⟩
        rw [unhide Hcut] at hco hcl hcr
        obtain rfl : r = s := L_inj hcr
        subst hco
        clear hcl hcr
        go_wp2_with fail
        go_ret
        exact ⟨k, rfl, unhide Hk, _, rfl⟩
      · 
        go_enter Tryd.func31, Tryd.ntmps31
        go_wp2_with fail
        refine (cut_any s _ hs).mono ?_
        rintro e w1 ⟨o, l, r, rfl, ⟨hco, hcl, hcr⟩, m, rfl⟩
        rw [unhide Hcut] at hco hcl hcr
        obtain rfl : r = s := L_inj hcr
        subst hco
        clear hcl hcr
        go_wp2_with fail
        go_ret
        exact ⟨k, rfl, unhide Hk, _, rfl⟩

/-- The contract of kind, at depth n. -/
def KindC (n : Nat) : Prop := ∀ (s : ByteArray) (ps : List Pt) (rows : List Int) (v : Value) (base : Nat) (w : World), s.size ≤ 200 → Wf n (L s) ps →
    (∀ p ∈ ps, oldB p.1 = true → p.2.toNat < rows.length) → (∀ x ∈ rows, 0 ≤ x ∧ x ≤ 2) → w.ownsRow base 3 1 v rows.length (rows.map (.int .i64)) →
    Calls Tryd.prog 31 #[.string s, v] w fun e w' => ∃ k, e = .returned (.int .i64 k) ∧ KindR rows ps k ∧ ∃ m, w' = w.drewN m

theorem KindR.neg {rows : List Int} {p : List Pt} {k : Int} (h : KindR rows p k) : KindR rows (p ++ [(126, 0)]) k :=
  ⟨h.1, h.2.1, fun q st => kEval_neg rows p q k h.2.2 st⟩
theorem KindR.bin {rows : List Int} {o : Int} (ho : opB o = true) {p q : List Pt} {a b : Int} (hp : KindR rows p a) (hq : KindR rows q b) : KindR rows (p ++ q ++ [(o, 0)]) (joinK o a b) :=
  ⟨(joinK_bd o a b ⟨hp.1, hp.2.1⟩).1, (joinK_bd o a b ⟨hp.1, hp.2.1⟩).2, fun r st => kEval_bin rows o ho p q r a b hp.2.2 hq.2.2 st⟩

set_option maxHeartbeats 1000000 in
theorem kind_one (n : Nat) (ih : KindC n) (s : ByteArray) (ps p : List Pt) (rows : List Int) (v : Value) (base : Nat) (w : World) (hs : s.size ≤ 200) (ho : (cut (L s)).1 = 40 ∨ (cut (L s)).1 = 126) (hw : Wf n (cut (L s)).2.2 p)
    (hn : ∀ x ∈ p, oldB x.1 = true → x.2.toNat < rows.length) (hrows : ∀ x ∈ rows, 0 ≤ x ∧ x ≤ 2) (hown : w.ownsRow base 3 1 v rows.length (rows.map (.int .i64))) (hps : ∀ k, KindR rows p k → KindR rows ps k) :
    Calls Tryd.prog 31 #[.string s, v] w fun e w' => ∃ k, e = .returned (.int .i64 k) ∧ KindR rows ps k ∧ ∃ m, w' = w.drewN m := by
  have Hih := hide ih
  have Hw := hide hw
  have Hn := hide hn
  have Hrows := hide hrows
  have Hown := hide hown
  have Hps := hide hps
  have Ho := hide ho
  clear ih hw hn hrows hown hps ho
  go_enter Tryd.func31, Tryd.ntmps31
  go_wp2_with fail
  refine (cut_any s _ hs).mono ?_
  rintro e w1 ⟨o, l, r, rfl, ⟨hco, hcl, hcr⟩, m, rfl⟩
  have ho := unhide Ho
  rw [hco] at ho
  have Hr : Hid (Wf n (L r) p) := by show Wf _ _ _; rw [hcr]; exact unhide Hw
  have hrs : r.size ≤ 200 := Nat.le_trans (size_of_L hcr (cut_le (L s)).2) hs
  clear hco hcl hcr Ho Hw
  rcases ho with rfl | rfl
  all_goals
    go_wp2_with fail
    refine (unhide Hih r p rows v base _ hrs (unhide Hr) (unhide Hn) (unhide Hrows) (by exact unhide Hown)).mono ?_
    rintro e w2 ⟨k, rfl, hk, m2, rfl⟩
    have Hk := hide (unhide Hps k hk)
    clear hk
    go_wp2_with fail
    go_ret
    exact ⟨k, rfl, unhide Hk, m + m2, by simp [World.drewN]⟩

set_option maxHeartbeats 1000000 in
theorem kind_two (n : Nat) (ih : KindC n) (s : ByteArray) (p q : List Pt) (rows : List Int) (v : Value) (base : Nat) (w : World) (hs : s.size ≤ 200) (ho : opB (cut (L s)).1 = true) (hp : Wf n (cut (L s)).2.1 p) (hq : Wf n (cut (L s)).2.2 q)
    (hnp : ∀ x ∈ p, oldB x.1 = true → x.2.toNat < rows.length) (hnq : ∀ x ∈ q, oldB x.1 = true → x.2.toNat < rows.length) (hrows : ∀ x ∈ rows, 0 ≤ x ∧ x ≤ 2) (hown : w.ownsRow base 3 1 v rows.length (rows.map (.int .i64))) :
    Calls Tryd.prog 31 #[.string s, v] w fun e w' => ∃ k, e = .returned (.int .i64 k) ∧ KindR rows (p ++ q ++ [((cut (L s)).1, 0)]) k ∧ ∃ m, w' = w.drewN m := by
  have Hih := hide ih
  have Hp := hide hp
  have Hq := hide hq
  have Hnp := hide hnp
  have Hnq := hide hnq
  have Hrows := hide hrows
  have Hown := hide hown
  have Ho := hide ho
  clear ih hp hq hnp hnq hrows hown ho
  obtain ⟨oo, hoo⟩ : ∃ oo, (cut (L s)).1 = oo := ⟨_, rfl⟩
  rw [hoo]
  have Hoo := hide hoo
  clear hoo
  go_enter Tryd.func31, Tryd.ntmps31
  go_wp2_with fail
  refine (cut_any s _ hs).mono ?_
  rintro e w1 ⟨o, l, r, rfl, ⟨hco, hcl, hcr⟩, m, rfl⟩
  have ho := unhide Ho
  rw [hco] at ho
  obtain rfl : oo = o := (unhide Hoo).symm.trans hco
  have Hl : Hid (Wf n (L l) p) := by show Wf _ _ _; rw [hcl]; exact unhide Hp
  have Hr : Hid (Wf n (L r) q) := by show Wf _ _ _; rw [hcr]; exact unhide Hq
  have hls : l.size ≤ 200 := Nat.le_trans (size_of_L hcl (cut_le (L s)).1) hs
  have hrs : r.size ≤ 200 := Nat.le_trans (size_of_L hcr (cut_le (L s)).2) hs
  have n40 := op_ne ho 40 rfl
  have n126 := op_ne ho 126 rfl
  have n0 : (oo != 0) = true := by simp [bne, op_ne ho 0 rfl]
  have Hoq := hide ho
  clear hco hcl hcr Ho Hp Hq ho
  go_wp2_with fail
  refine (unhide Hih l p rows v base _ hls (unhide Hl) (unhide Hnp) (unhide Hrows) (by exact unhide Hown)).mono ?_
  rintro e w2 ⟨k, rfl, hk, m2, rfl⟩
  have hk0 := hk.1
  have hk1 := hk.2.1
  have Hk := hide hk
  clear hk
  go_wp2_with fail
  refine (unhide Hih r q rows v base _ hrs (unhide Hr) (unhide Hnq) (unhide Hrows) (by exact unhide Hown)).mono ?_
  rintro e w2 ⟨k2, rfl, hk, m3, rfl⟩
  have hk20 := hk.1
  have hk21 := hk.2.1
  have Hk2 := hide hk
  clear hk
  go_wp2_with fail
  refine (joined_any oo k k2 _ (unhide Hoq) ⟨hk0, hk1⟩ ⟨hk20, hk21⟩).mono ?_
  rintro e w2 ⟨rfl, rfl⟩
  have Hj := hide ((unhide Hk).bin (unhide Hoq) (unhide Hk2))
  go_wp2_with fail
  go_ret
  exact ⟨_, rfl, unhide Hj, m + m2 + m3, by simp [World.drewN, Nat.add_assoc]⟩

theorem kind_any (n : Nat) : KindC n := by
  induction n with
  | zero => intro s ps rows v base w hs hw; exact absurd hw (by simp [Wf])
  | succ n ih =>
    intro s ps rows v base w hs hw hn hrows hown
    rcases hw with ⟨hc, hop⟩ | ⟨hc, hw⟩ | ⟨hc, p, hw, rfl⟩ | ⟨hc, p, q, hp, hq, rfl⟩
    · exact kind_leaf s ps rows v base w hs hc hop hn hrows hown
    · exact kind_one n ih s ps ps rows v base w hs (.inl hc) hw hn hrows hown (fun _ h => h)
    · exact kind_one n ih s _ p rows v base w hs (.inr hc) hw (fun x hx => hn x (by simp [hx])) hrows hown (fun _ h => h.neg)
    · exact kind_two n ih s p q rows v base w hs hc hp hq (fun x hx => hn x (by simp [hx])) (fun x hx => hn x (by simp [hx])) hrows hown

end Go.Proofs.YtpcdkhmahbecaaaDoor
