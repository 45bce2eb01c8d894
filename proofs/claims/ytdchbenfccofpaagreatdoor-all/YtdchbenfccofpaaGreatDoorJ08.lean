/- Own texts of the theorem in YtdchbenfccofpaaGreatDoorWAlY, part 08. -/
import Derived.Test.YtdchbenfccofpaaGreatDoorJ01
import Derived.Test.YtdchbenfccofpaaGreatDoorJ07
import Derived.Test.YtdchbenfccofpaaGreatDoorJ02
set_option maxHeartbeats 4000000
namespace Go.Proofs.YtdchbenfccofpaaGreatDoor
open Go.RowKit Db
def SpotR (r : Option (Int × Int × Int)) (e : Ending) : Prop :=
 ∃ a d o : Int, ∃ ok : Bool, e = .returned (.tuple #[.agg #[.int .i64 a, .int .i64 d, .int .i64 o], .bool ok]) ∧ r = if ok then some (a, d, o) else none
theorem beq_false_of {a b : Int} (h : ¬ a = b) : (a == b) = false := by simpa using h
theorem dig_ne {c : Int} (h : digB c = true) (b : Int) (hb : digB b = false) : (c == b) = false := by
 rw [beq_eq_false_iff_ne]; intro e; subst e; rw [h] at hb; cases hb
theorem sel_ne {c : Int} (h : selB c = true) (b : Int) (hb : selB b = false) : (c == b) = false := by
 rw [beq_eq_false_iff_ne]; intro e; subst e; rw [h] at hb; cases hb
theorem old_ne {c : Int} (h : oldB c = true) (b : Int) (hb : oldB b = false) : (c == b) = false := by
 rw [beq_eq_false_iff_ne]; intro e; subst e; rw [h] at hb; cases hb
theorem op_ne {c : Int} (h : opB c = true) (b : Int) (hb : opB b = false) : (c == b) = false := by
 rw [beq_eq_false_iff_ne]; intro e; subst e; rw [h] at hb; cases hb
theorem sel_dig {c : Int} (h : selB c = true) : digB c = false := by
 simp [selB] at h; rcases h with (rfl | rfl) | rfl <;> rfl
theorem old_dig {c : Int} (h : oldB c = true) : digB c = false := by
 simp [oldB] at h; rcases h with rfl | rfl <;> rfl
theorem old_sel {c : Int} (h : oldB c = true) : selB c = false := by
 simp [oldB] at h; rcases h with rfl | rfl <;> rfl
theorem op_dig {c : Int} (h : opB c = true) : digB c = false := by
 simp [opB] at h; rcases h with ((rfl | rfl) | rfl) | rfl <;> rfl
theorem joined_any (o a b : Int) (w : World) (ho : opB o = true) (ha : 0 ≤ a ∧ a ≤ 2) (hb : 0 ≤ b ∧ b ≤ 2) :
  Calls Tryz.prog 157 #[.int .u8 o, .int .i64 a, .int .i64 b] w fun e w' => e = .returned (.int .i64 (joinK o a b)) ∧ w' = w := by
 simp [opB] at ho
 have ha' : a = 0 ∨ a = 1 ∨ a = 2 := by omega
 have hb' : b = 0 ∨ b = 1 ∨ b = 2 := by omega
 clear ha hb
 rcases ho with ((rfl | rfl) | rfl) | rfl <;> rcases ha' with rfl | rfl | rfl <;> rcases hb' with rfl | rfl | rfl
 all_goals
  go_enter Tryz.func157, Tryz.ntmps157
  go_wp2
  go_ret
  exact ⟨rfl, rfl⟩
theorem ret_bool {a b : Bool} (h : a = b) : Ending.returned (.bool a) = .returned (.bool b) := by rw [h]
theorem oldDig_at (s : ByteArray) (h : oldDig (L s)) : ∀ i (hi : i + 1 < s.size), oldB ((s[i]'(by omega)).toNat : Int) = true → digB (s[i + 1].toNat : Int) = true := by
 intro i hi
 have key : ∀ (l : List UInt8) (i : Nat), oldDig l → ∀ c d r, l.drop i = c :: d :: r → oldB c.toNat = true → digB d.toNat = true := by
  intro l
  induction l with
  | nil => intro i _ c d r e; simp at e
  | cons x t ih =>
   intro i ho c d r e hc
   cases i with
   | zero =>
    simp at e
    obtain ⟨rfl, rfl⟩ := e
    exact ho.1 hc
   | succ i => exact ih i ho.2 c d r (by simpa using e) hc
 exact key (L s) i h _ _ _ (by rw [L_drop s i (by omega), L_drop s (i + 1) hi])
theorem rch_step (s : ByteArray) (row : Int) (i : Nat) (h : i + 1 < s.size) : rch row ((L s).drop i) = ((oldB ((s[i]'(by omega)).toNat : Int) && decide (row ≤ (s[i + 1].toNat : Int) - 48)) || rch row ((L s).drop (i + 1))) := by
 rw [L_drop s i (by omega), L_drop s (i + 1) h]; rfl
theorem rch_end (s : ByteArray) (row : Int) (i : Nat) (h : s.size ≤ i + 1) : rch row ((L s).drop i) = false := by
 by_cases hi : i < s.size
 ·rw [L_drop s i hi, L_drop_end s (i + 1) h]; simp [rch]
 ·rw [L_drop_end s i (by omega)]; rfl
theorem reaches_any (s : ByteArray) (row : Int) (w : World) (hs : s.size ≤ 200) (hr : oldDig (L s)) :
  Calls Tryz.prog 111 #[.string s, .int .i64 row] w fun e w' => e = .returned (.bool (rch row (L s))) ∧ w' = w := by
 have Ho := hI (oldDig_at s hr)
 clear hr
 go_enter Tryz.func111, Tryz.ntmps111
 go_wp2
 go_loop [5] (fun i => ∃ k : Nat, k ≤ s.size ∧ i = .int .i64 k ∧ Hid (rch row ((L s).drop k) = rch row (L s))) (fun i => s.size - (intOf i).toNat)
 case atStart => exact ⟨0, Nat.zero_le _, rfl, hI rfl⟩
 case round =>
  obtain ⟨k, hk, rfl, Hu⟩ := hrel
  by_cases hlt : k + 1 < s.size
  ·have Hst := hI (rch_step s row k hlt)
   by_cases ho : oldB (s[k].toNat : Int) = true
   ·have hd := Ho.u k hlt ho
    simp [digB] at hd
    obtain ⟨hd1, hd2⟩ := hd
    by_cases hge : row ≤ (s[k + 1].toNat : Int) - 48
    ·have Hge := hI hge
     go_wp2_with (go_at_call 155; refine (older_any _ _).mono ?_; rintro e w' ⟨rfl, rfl⟩)
     go_ret
     exact ⟨by rw [← Hu.u, Hst.u, ho]; simp [Hge.u], rfl⟩
    ·have Hge := hI hge
     go_wp2_with (go_at_call 155; refine (older_any _ _).mono ?_; rintro e w' ⟨rfl, rfl⟩)
     go_round
     case rel => exact ⟨k + 1, by omega, by go_num, by show _ = _; rw [← Hu.u, Hst.u]; have := Hge.u; simp; omega⟩
     case measure => simp [intOf]; omega
   ·have ho' : oldB (s[k].toNat : Int) = false := by simpa using ho
    clear ho
    have Hst' : Hid (rch row ((L s).drop k) = rch row ((L s).drop (k + 1))) := by
     show _ = _
     rw [Hst.u, ho']; simp
    go_wp2_with (go_at_call 155; refine (older_any _ _).mono ?_; rintro e w' ⟨rfl, rfl⟩)
    go_round
    case rel => exact ⟨k + 1, by omega, by go_num, by show _ = _; rw [← Hu.u, Hst'.u]⟩
    case measure => simp [intOf]; omega
  ·have Hend := hI (rch_end s row k (by omega))
   go_wp2
   go_ret
   exact ⟨ret_bool (by rw [← Hu.u, Hend.u]), rfl⟩
theorem size_of_L {s t : ByteArray} {l : List UInt8} (h : L t = l) (hl : l.length ≤ (L s).length) : t.size ≤ s.size := by
 rw [← L_length, ← L_length, h]; exact hl
theorem info_int : (Tryz.prog.info? 3).map (fun i => (i.zero, i.size, i.bytes)) = some (some (.int .i64 0), 1, 8) := by kernel_rfl
def KindR (rows : List Int) (ps : List Pt) (k : Int) : Prop := 0 ≤ k ∧ k ≤ 2 ∧ ∀ q st, kEval rows (ps ++ q) st = kEval rows q (k :: st)
theorem kind_leaf (s : ByteArray) (ps : List Pt) (rows : List Int) (v : Value) (base : Nat) (w : World) (hs : s.size ≤ 200) (hcut : cut (L s) = (0, [], L s)) (hop : Opnd (L s) ps)
  (hn : ∀ p ∈ ps, oldB p.1 = true → p.2.toNat < rows.length) (hrows : ∀ x ∈ rows, 0 ≤ x ∧ x ≤ 2) (hown : w.ownsRow base 3 1 v rows.length (rows.map (.int .i64))) :
  Calls Tryz.prog 112 #[.string s, v] w fun e w' => ∃ k, e = .returned (.int .i64 k) ∧ KindR rows ps k ∧ ∃ m, w' = w.drewN m := by
 rcases hop with ⟨h1, h18, hdig, rfl⟩ | ⟨c, ds, he, h1, hdig, hsel, rfl⟩
 ·
  have hz : 0 < s.size := by rw [← L_length]; omega
  have hd0 : digB (s[0].toNat : Int) = true := hdig _ (by rw [← L_get s 0 hz]; exact List.getElem_mem _)
  have Hk : Hid (KindR rows [(48, val (L s))] 2) := ⟨by omega, by omega, fun q st => kEval_leaf rows (48, val (L s)) q st rfl⟩
  have Hcut := hI hcut
  have n64 := dig_ne hd0 64 rfl
  have n33 := dig_ne hd0 33 rfl
  have n36 := dig_ne hd0 36 rfl
  have n60 := dig_ne hd0 60 rfl
  clear hcut h1 h18 hdig hn hrows hown hd0
  go_enter Tryz.func112, Tryz.ntmps112
  go_wp2_with fail
  refine (cut_any s _ hs).mono ?_
  rintro e w1 ⟨o, l, r, rfl, ⟨hco, hcl, hcr⟩, m, rfl⟩
  rw [Hcut.u] at hco hcl hcr
  obtain rfl : r = s := L_inj hcr
  subst hco
  clear hcl hcr
  go_wp2_with fail
  go_ret
  exact ⟨2, rfl, Hk.u, _, rfl⟩
 ·have hz : 0 < s.size := by rw [← L_length, he]; simp
  have hc0 : s[0] = c := by
   have e1 := L_get? s 0 hz
   rw [he] at e1
   simpa using e1.symm
  have Hcut := hI hcut
  clear hcut
  rcases hsel with ⟨hsel, hds⟩ | ⟨hold, hds⟩
  ·have hc : c.toNat = 64 ∨ c.toNat = 33 ∨ c.toNat = 35 := by simp [selB] at hsel; omega
   rcases hc with hc | hc | hc
   ·have hx : (s[0].toNat : Int) = 64 := by rw [hc0]; omega
    have Hk : Hid (KindR rows [((c.toNat : Int), val ds)] 1) := by
     refine ⟨by omega, by omega, fun q st => ?_⟩
     rw [kEval_leaf rows _ q st (by show opdB (c.toNat : Int) = true; rw [hc]; rfl)]
     simp [leafK, hc]
    clear hn hrows hown hsel hds he hdig h1 hc hc0
    go_enter Tryz.func112, Tryz.ntmps112
    go_wp2_with fail
    refine (cut_any s _ hs).mono ?_
    rintro e w1 ⟨o, l, r, rfl, ⟨hco, hcl, hcr⟩, m, rfl⟩
    rw [Hcut.u] at hco hcl hcr
    obtain rfl : r = s := L_inj hcr
    subst hco
    clear hcl hcr
    go_wp2_with fail
    go_ret
    exact ⟨1, rfl, Hk.u, _, rfl⟩
   ·have hx : (s[0].toNat : Int) = 33 := by rw [hc0]; omega
    have Hk : Hid (KindR rows [((c.toNat : Int), val ds)] 1) := by
     refine ⟨by omega, by omega, fun q st => ?_⟩
     rw [kEval_leaf rows _ q st (by show opdB (c.toNat : Int) = true; rw [hc]; rfl)]
     simp [leafK, hc]
    clear hn hrows hown hsel hds he hdig h1 hc hc0
    go_enter Tryz.func112, Tryz.ntmps112
    go_wp2_with fail
    refine (cut_any s _ hs).mono ?_
    rintro e w1 ⟨o, l, r, rfl, ⟨hco, hcl, hcr⟩, m, rfl⟩
    rw [Hcut.u] at hco hcl hcr
    obtain rfl : r = s := L_inj hcr
    subst hco
    clear hcl hcr
    go_wp2_with fail
    go_ret
    exact ⟨1, rfl, Hk.u, _, rfl⟩
   ·have hx : (s[0].toNat : Int) = 35 := by rw [hc0]; omega
    have Hk : Hid (KindR rows [((c.toNat : Int), val ds)] 2) := by
     refine ⟨by omega, by omega, fun q st => ?_⟩
     rw [kEval_leaf rows _ q st (by show opdB (c.toNat : Int) = true; rw [hc]; rfl)]
     simp [leafK, hc, oldB]
    clear hn hrows hown hsel hds he hdig h1 hc hc0
    go_enter Tryz.func112, Tryz.ntmps112
    go_wp2_with fail
    refine (cut_any s _ hs).mono ?_
    rintro e w1 ⟨o, l, r, rfl, ⟨hco, hcl, hcr⟩, m, rfl⟩
    rw [Hcut.u] at hco hcl hcr
    obtain rfl : r = s := L_inj hcr
    subst hco
    clear hcl hcr
    go_wp2_with fail
    go_ret
    exact ⟨2, rfl, Hk.u, _, rfl⟩
  ·obtain ⟨x, rfl⟩ : ∃ x, ds = [x] := List.length_eq_one_iff.1 hds
   have hz1 : 1 < s.size := by rw [← L_length, he]; simp
   have hx1 : s[1] = x := by
    have e1 := L_get? s 1 hz1
    rw [he] at e1
    simpa using e1.symm
   have hxd := hdig x (by simp)
   rw [← hx1] at hxd
   simp [digB] at hxd
   obtain ⟨hx48, hx57⟩ := hxd
   have hxv : val [x] = (s[1].toNat : Int) - 48 := by rw [hx1]; simp [val, valGo]
   have hi : ((s[1].toNat : Int) - (48 : Int)).toNat = s[1].toNat - 48 := by omega
   have hlt : s[1].toNat - 48 < rows.length := by
    have := hn _ (List.mem_singleton.2 rfl) hold
    simp only at this
    rw [hxv, hi] at this
    exact this
   obtain ⟨k, hk⟩ : ∃ k, rows[s[1].toNat - 48]? = some k := ⟨rows[s[1].toNat - 48], List.getElem?_eq_getElem hlt⟩
   have hkm := hrows k (List.mem_of_getElem? hk)
   have Hk : Hid (KindR rows [((c.toNat : Int), val [x])] k) := by
    refine ⟨hkm.1, hkm.2, fun q st => ?_⟩
    rw [kEval_leaf rows _ q st (by show opdB (c.toNat : Int) = true; unfold opdB; rw [hold]; simp)]
    unfold leafK
    have h64 : ((c.toNat : Int) == 64 || (c.toNat : Int) == 33) = false := by rw [old_ne hold 64 rfl, old_ne hold 33 rfl]; rfl
    rw [h64, hold]
    simp [hxv, hi, hk]
   rcases hown.2 with ⟨_, h0⟩ | ⟨g, cap, cur, rfl, hbg, hgg, hcap, hcm, hcs, htk⟩
   ·omega
   have hcell := hown.cells (g := g) rfl (s[1].toNat - 48) (.int .i64 k) (by rw [List.getElem?_map, hk]; rfl)
   rw [Addr.add_lit] at hcell
   simp only [Nat.zero_add] at hcell
   have hlen : rows.length ≤ maxLen := Nat.le_trans hcap hcm
   unfold maxLen at hlen
   obtain ⟨nn, hnn⟩ : ∃ nn, rows.length = nn := ⟨_, rfl⟩
   rw [hnn] at hlt hlen ⊢
   have hlt' : (s[1].toNat : Int) - 48 < nn := by omega
   have hcc : (s[0].toNat : Int) = 36 ∨ (s[0].toNat : Int) = 60 := by rw [hc0]; simp [oldB] at hold; omega
   clear hn hrows hown hds he hdig h1 hold hc0 hx1 hxv hi hk hkm hgg hcs htk hcap hcm hbg hnn
   rcases hcc with hx | hx
   ·
    go_enter Tryz.func112, Tryz.ntmps112
    go_wp2_with fail
    refine (cut_any s _ hs).mono ?_
    rintro e w1 ⟨o, l, r, rfl, ⟨hco, hcl, hcr⟩, m, rfl⟩
    rw [Hcut.u] at hco hcl hcr
    obtain rfl : r = s := L_inj hcr
    subst hco
    clear hcl hcr
    go_wp2_with fail
    go_ret
    exact ⟨k, rfl, Hk.u, _, rfl⟩
   ·
    go_enter Tryz.func112, Tryz.ntmps112
    go_wp2_with fail
    refine (cut_any s _ hs).mono ?_
    rintro e w1 ⟨o, l, r, rfl, ⟨hco, hcl, hcr⟩, m, rfl⟩
    rw [Hcut.u] at hco hcl hcr
    obtain rfl : r = s := L_inj hcr
    subst hco
    clear hcl hcr
    go_wp2_with fail
    go_ret
    exact ⟨k, rfl, Hk.u, _, rfl⟩
def KindC (n : Nat) : Prop := ∀ (s : ByteArray) (ps : List Pt) (rows : List Int) (v : Value) (base : Nat) (w : World), s.size ≤ 200 → Wf n (L s) ps →
  (∀ p ∈ ps, oldB p.1 = true → p.2.toNat < rows.length) → (∀ x ∈ rows, 0 ≤ x ∧ x ≤ 2) → w.ownsRow base 3 1 v rows.length (rows.map (.int .i64)) →
  Calls Tryz.prog 112 #[.string s, v] w fun e w' => ∃ k, e = .returned (.int .i64 k) ∧ KindR rows ps k ∧ ∃ m, w' = w.drewN m
theorem KindR.neg {rows : List Int} {p : List Pt} {k : Int} (h : KindR rows p k) : KindR rows (p ++ [(126, 0)]) k :=
 ⟨h.1, h.2.1, fun q st => kEval_neg rows p q k h.2.2 st⟩
theorem KindR.bin {rows : List Int} {o : Int} (ho : opB o = true) {p q : List Pt} {a b : Int} (hp : KindR rows p a) (hq : KindR rows q b) : KindR rows (p ++ q ++ [(o, 0)]) (joinK o a b) :=
 ⟨(joinK_bd o a b ⟨hp.1, hp.2.1⟩).1, (joinK_bd o a b ⟨hp.1, hp.2.1⟩).2, fun r st => kEval_bin rows o ho p q r a b hp.2.2 hq.2.2 st⟩
theorem kind_one (n : Nat) (ih : KindC n) (s : ByteArray) (ps p : List Pt) (rows : List Int) (v : Value) (base : Nat) (w : World) (hs : s.size ≤ 200) (ho : (cut (L s)).1 = 40 ∨ (cut (L s)).1 = 126) (hw : Wf n (cut (L s)).2.2 p)
  (hn : ∀ x ∈ p, oldB x.1 = true → x.2.toNat < rows.length) (hrows : ∀ x ∈ rows, 0 ≤ x ∧ x ≤ 2) (hown : w.ownsRow base 3 1 v rows.length (rows.map (.int .i64))) (hps : ∀ k, KindR rows p k → KindR rows ps k) :
  Calls Tryz.prog 112 #[.string s, v] w fun e w' => ∃ k, e = .returned (.int .i64 k) ∧ KindR rows ps k ∧ ∃ m, w' = w.drewN m := by
 have Hih := hI ih
 have Hw := hI hw
 have Hn := hI hn
 have Hrows := hI hrows
 have Hown := hI hown
 have Hps := hI hps
 have Ho := hI ho
 clear ih hw hn hrows hown hps ho
 go_enter Tryz.func112, Tryz.ntmps112
 go_wp2_with fail
 refine (cut_any s _ hs).mono ?_
 rintro e w1 ⟨o, l, r, rfl, ⟨hco, hcl, hcr⟩, m, rfl⟩
 have ho := Ho.u
 rw [hco] at ho
 have Hr : Hid (Wf n (L r) p) := by show Wf _ _ _; rw [hcr]; exact Hw.u
 have hrs : r.size ≤ 200 := Nat.le_trans (size_of_L hcr (cut_le (L s)).2) hs
 clear hco hcl hcr Ho Hw
 rcases ho with rfl | rfl
 all_goals
  go_wp2_with fail
  refine (Hih.u r p rows v base _ hrs Hr.u Hn.u Hrows.u (by exact Hown.u)).mono ?_
  rintro e w2 ⟨k, rfl, hk, m2, rfl⟩
  have Hk := hI (Hps.u k hk)
  clear hk
  go_wp2_with fail
  go_ret
  exact ⟨k, rfl, Hk.u, m + m2, by simp [World.drewN]⟩
theorem kind_two (n : Nat) (ih : KindC n) (s : ByteArray) (p q : List Pt) (rows : List Int) (v : Value) (base : Nat) (w : World) (hs : s.size ≤ 200) (ho : opB (cut (L s)).1 = true) (hp : Wf n (cut (L s)).2.1 p) (hq : Wf n (cut (L s)).2.2 q)
  (hnp : ∀ x ∈ p, oldB x.1 = true → x.2.toNat < rows.length) (hnq : ∀ x ∈ q, oldB x.1 = true → x.2.toNat < rows.length) (hrows : ∀ x ∈ rows, 0 ≤ x ∧ x ≤ 2) (hown : w.ownsRow base 3 1 v rows.length (rows.map (.int .i64))) :
  Calls Tryz.prog 112 #[.string s, v] w fun e w' => ∃ k, e = .returned (.int .i64 k) ∧ KindR rows (p ++ q ++ [((cut (L s)).1, 0)]) k ∧ ∃ m, w' = w.drewN m := by
 have Hih := hI ih
 have Hp := hI hp
 have Hq := hI hq
 have Hnp := hI hnp
 have Hnq := hI hnq
 have Hrows := hI hrows
 have Hown := hI hown
 have Ho := hI ho
 clear ih hp hq hnp hnq hrows hown ho
 obtain ⟨oo, hoo⟩ : ∃ oo, (cut (L s)).1 = oo := ⟨_, rfl⟩
 rw [hoo]
 have Hoo := hI hoo
 clear hoo
 go_enter Tryz.func112, Tryz.ntmps112
 go_wp2_with fail
 refine (cut_any s _ hs).mono ?_
 rintro e w1 ⟨o, l, r, rfl, ⟨hco, hcl, hcr⟩, m, rfl⟩
 have ho := Ho.u
 rw [hco] at ho
 obtain rfl : oo = o := Hoo.u.symm.trans hco
 have Hl : Hid (Wf n (L l) p) := by show Wf _ _ _; rw [hcl]; exact Hp.u
 have Hr : Hid (Wf n (L r) q) := by show Wf _ _ _; rw [hcr]; exact Hq.u
 have hls : l.size ≤ 200 := Nat.le_trans (size_of_L hcl (cut_le (L s)).1) hs
 have hrs : r.size ≤ 200 := Nat.le_trans (size_of_L hcr (cut_le (L s)).2) hs
 have n40 := op_ne ho 40 rfl
 have n126 := op_ne ho 126 rfl
 have n0 : (oo != 0) = true := by simp [bne, op_ne ho 0 rfl]
 have Hoq := hI ho
 clear hco hcl hcr Ho Hp Hq ho
 go_wp2_with fail
 refine (Hih.u l p rows v base _ hls Hl.u Hnp.u Hrows.u (by exact Hown.u)).mono ?_
 rintro e w2 ⟨k, rfl, hk, m2, rfl⟩
 have hk0 := hk.1
 have hk1 := hk.2.1
 have Hk := hI hk
 clear hk
 go_wp2_with fail
 refine (Hih.u r q rows v base _ hrs Hr.u Hnq.u Hrows.u (by exact Hown.u)).mono ?_
 rintro e w2 ⟨k2, rfl, hk, m3, rfl⟩
 have hk20 := hk.1
 have hk21 := hk.2.1
 have Hk2 := hI hk
 clear hk
 go_wp2_with fail
 refine (joined_any oo k k2 _ Hoq.u ⟨hk0, hk1⟩ ⟨hk20, hk21⟩).mono ?_
 rintro e w2 ⟨rfl, rfl⟩
 have Hj := hI (Hk.u.bin Hoq.u Hk2.u)
 go_wp2_with fail
 go_ret
 exact ⟨_, rfl, Hj.u, m + m2 + m3, by simp [World.drewN, Nat.add_assoc]⟩
theorem kind_any (n : Nat) : KindC n := by
 induction n with
 | zero => intro s ps rows v base w hs hw; exact absurd hw (by simp [Wf])
 | succ n ih =>
  intro s ps rows v base w hs hw hn hrows hown
  rcases hw with ⟨hc, hop⟩ | ⟨hc, hw⟩ | ⟨hc, p, hw, rfl⟩ | ⟨hc, p, q, hp, hq, rfl⟩
  ·exact kind_leaf s ps rows v base w hs hc hop hn hrows hown
  ·exact kind_one n ih s ps ps rows v base w hs (.inl hc) hw hn hrows hown (fun _ h => h)
  ·exact kind_one n ih s _ p rows v base w hs (.inr hc) hw (fun x hx => hn x (by simp [hx])) hrows hown (fun _ h => h.neg)
  ·exact kind_two n ih s p q rows v base w hs hc hp hq (fun x hx => hn x (by simp [hx])) (fun x hx => hn x (by simp [hx])) hrows hown
theorem split_at (s : ByteArray) (b : UInt8) (c : Int) (hc : c = (b.toNat : Int)) (w : World) (hs : s.size ≤ 200) :
  Calls Tryz.prog 77 #[.string s, .int .u8 c] w fun e w' => ∃ v : Value, ∃ ss : List ByteArray, e = .returned v ∧ ss.map L = split (L s) b ∧
   w'.ownsRow w.heap.size 9 1 v ss.length (ss.map Value.string) ∧ Below w.heap.size w w' := by
 subst hc
 exact split_any s b w (by omega)
theorem two_strings {ss : List ByteArray} {x y : List UInt8} (h : ss.map L = [x, y]) : ∃ a b, ss = [a, b] ∧ L a = x ∧ L b = y := by
 match ss, h with
 | [a, b], h => simp at h; exact ⟨a, b, rfl, h.1, h.2⟩
 | [], h => simp at h
 | [a], h => simp at h
 | a :: b :: c :: r, h => simp at h
theorem cell_one_new' (w : World) (n : Nat) (hn : n = w.heap.size) (x : Value) (t : TypeId) : ∀ j u, [x][j]? = some u → (w.alloc (.cells #[x] t)).cell? ((⟨n, 0, none⟩ : Addr).add j) = some u := by
 subst hn; exact cell_one_new w x t
theorem own_ne {w : World} {B : Nat} {e : TypeId} {size : Nat} {v : Value} {n : Nat} {xs : List Value} (h : w.ownsRow B e size v n xs) {b : Nat} (hb : b < B) : some b ≠ v.ownBlock :=
 fun e => by have := (h.lt b e.symm).1; omega
theorem apart_symm {a b : Value} (h : a.ownBlock = none ∨ a.ownBlock ≠ b.ownBlock) : b.ownBlock = none ∨ b.ownBlock ≠ a.ownBlock := by
 rcases h with h | h
 ·cases hb : b.ownBlock with
  | none => exact .inl rfl
  | some x => exact .inr (by rw [h]; simp)
 ·exact .inr (fun e => h e.symm)
structure Fill (n0 B : Nat) (w2 wr : World) (pd : List (List UInt8 × List UInt8)) (k : Nat) (vf vt : Value) : Prop where
 blk : Blk wr (n0 + 1) #[vf, vt, .slice none 0 0] 129
 rf : wr.ownsRow B 3 1 vf k ((pd.take k).map (fun p => .int .i64 (val p.1)))
 rt : wr.ownsRow B 3 1 vt k ((pd.take k).map (fun p => .int .i64 (val p.2)))
 apart : vf.ownBlock = none ∨ vf.ownBlock ≠ vt.ownBlock
 frm : Frm B (fun x => x = n0 + 1) w2 wr
 lt : n0 + 1 < B
 le : B ≤ wr.heap.size
theorem day_val (d : ByteArray) (l : List UInt8) (h : L d = l) (hd : dayS l) : d.size ≤ 18 ∧ ∀ k (hk : k < d.size), 48 ≤ d[k].toNat ∧ d[k].toNat ≤ 57 := by
 subst h
 refine ⟨by rw [← L_length]; have := hd.2.1; omega, fun k hk => ?_⟩
 have := hd.2.2 d[k] (by rw [← L_get d k hk]; exact List.getElem_mem _)
 simp [digB] at this
 omega
theorem read_any (s : ByteArray) (w : World) (hs : s.size ≤ 200) (pd : List (List UInt8 × List UInt8)) (rows : List (List UInt8)) (hsh : Sht (L s) pd rows) :
   Calls Tryz.prog 110 #[.string s] w fun e w' => ∃ vf vt vr : Value, ∃ ss : List ByteArray, e = .returned (.agg #[vf, vt, vr]) ∧ ss.map L = rows ∧
     w'.ownsRow w.heap.size 3 1 vf pd.length (pd.map (fun p => .int .i64 (val p.1))) ∧ w'.ownsRow w.heap.size 3 1 vt pd.length (pd.map (fun p => .int .i64 (val p.2))) ∧
     w'.ownsRow w.heap.size 9 1 vr ss.length (ss.map Value.string) ∧ Below w.heap.size w w' := by
 obtain ⟨⟨x, y, h1, h2, h3⟩, hdays⟩ := hsh
 obtain ⟨ii, hi, hz0, hz1, hz2⟩ := info_parts info_int
 have H1 := hI h1
 have H2 := hI h2
 have H3 := hI h3
 have Hdays := hI hdays
 clear h1 h2 h3 hdays
 go_enter Tryz.func110, Tryz.ntmps110
 go_wp2_with fail
 refine (bare_any s _ hs).mono ?_
 rintro e w1 ⟨t, rfl, ht, rfl⟩
 have htz : t.size ≤ 200 := by rw [← L_length, ht]; exact Nat.le_trans (bare_le _) (by rw [L_length]; exact hs)
 go_wp2_with fail
 refine (split_at t 124 124 rfl _ htz).mono ?_
 rintro e w1 ⟨v1, ss1, rfl, hss1, hown1, hb1⟩
 rw [ht, H1.u] at hss1
 obtain ⟨sx, sy, rfl, hx, hy⟩ := two_strings hss1
 have hlen := split_le (bare (L s)) 124
 rw [H1.u, ← ht, L_length] at hlen
 have hxz : sx.size ≤ 200 := by rw [← L_length, hx]; exact Nat.le_trans (hlen x (by simp)) htz
 have hyz : sy.size ≤ 200 := by rw [← L_length, hy]; exact Nat.le_trans (hlen y (by simp)) htz
 clear hlen hss1 ht H1
 obtain ⟨g1, cap1, rfl, hg1, hg1'⟩ := oSome hown1 (by simp)
 have hc10 := oCell hown1 (j := 0) rfl
 have hc11 := oCell hown1 (j := 1) rfl
 have Hown1 := hI hown1
 have Hb1 := hI hb1
 have Hx := hI hx
 have Hy := hI hy
 have hsz1 := hb1.size
 simp at hsz1
 have HB1 : Hid (Blk w1 (w.heap.size + 1) #[.slice none 0 0, .slice none 0 0, .slice none 0 0] 129) := by
   exact Blk.kept (by have := Blk.new (w.alloc (.cells #[.slice none 0 0, .slice none 0 0, .slice none 0 0] 129)) #[.slice none 0 0, .slice none 0 0, .slice none 0 0] 129; simpa using this) hb1
 have HB0 : Hid (Blk w1 w.heap.size #[.slice none 0 0, .slice none 0 0, .slice none 0 0] 129) := by
   exact Blk.kept ((Blk.new w _ _).alloc _) hb1
 clear hown1 hb1 hx hy
 go_wp2_with fail
 refine (split_at sx 44 44 rfl _ hxz).mono ?_
 rintro e w2 ⟨v2, ss2, rfl, hss2, hown2, hb2⟩
 rw [Hx.u, H2.u] at hss2
 have hl2 : ss2.length = pd.length := by have := congrArg List.length hss2; simpa using this
 have hpdl : pd.length ≤ 201 := by
   have := split_len x 44
   rw [H2.u] at this
   simp at this
   have h4 : x.length ≤ 200 := by rw [← Hx.u, L_length]; exact hxz
   omega
 rw [hl2] at hown2
 obtain ⟨ao2, cap2, rfl⟩ := oForm hown2
 have Hss2 := hI hss2
 have Hown2 := hI hown2
 have Hb2 := hI hb2
 have hsz2 := hb2.size
 clear hss2 hown2 hb2 hl2
 go_wp2_with fail
 go_loopw [6] (fun i wr => ∃ k : Nat, ∃ vf vt : Value, k ≤ pd.length ∧ i = .int .i64 k ∧ Hid (Fill w.heap.size w2.heap.size w2 wr pd k vf vt)) (fun i _ => pd.length - (intOf i).toNat)
 case atStart =>
   refine ⟨0, _, _, by omega, rfl, ⟨HB1.u.kept Hb2.u, World.ownsRow_nil _ _ _ _, World.ownsRow_nil _ _ _ _, .inl rfl, Frm.refl _ _ _, by omega, Nat.le_refl _⟩⟩
 case round =>
   obtain ⟨k, vf, vt, hk, rfl, Hfill⟩ := hrel
   by_cases hlt : k < pd.length
   · obtain ⟨sk, hsk⟩ : ∃ sk, ss2[k]? = some sk := by
       have : k < ss2.length := by
         have := congrArg List.length Hss2.u
         simp at this
         omega
       exact ⟨ss2[k], List.getElem?_eq_getElem this⟩
     obtain ⟨pk, hpk⟩ : ∃ pk, pd[k]? = some pk := ⟨pd[k], List.getElem?_eq_getElem hlt⟩
     have hskL : L sk = pk.1 ++ 45 :: pk.2 := by
       have := congrArg (fun l : List (List UInt8) => l[k]?) Hss2.u
       simp only [List.getElem?_map, hsk, hpk, Option.map_some, Option.some.injEq] at this
       exact this
     have hday := Hdays.u pk (List.mem_of_getElem? hpk)
     have hskz : sk.size ≤ 200 := by
       rw [← L_length, hskL]
       have h4 := hday.1.2.1
       have h5 := hday.2.2.1
       simp
       omega
     have hcut := split_two 45 pk.1 pk.2 (dayS_ne hday.1 45 rfl) (dayS_ne hday.2 45 rfl)
     have hgr2 : ∃ g2, ao2 = some ⟨g2, 0, none⟩ ∧ w2.heap.size ≥ g2 + 1 ∧ w1.heap.size ≤ g2 := by
       obtain ⟨g, cap, e1, e2, e3⟩ := oSome Hown2.u (by omega)
       simp only [Value.slice.injEq, true_and] at e1
       exact ⟨g, e1.1, by omega, e2⟩
     obtain ⟨g2, rfl, hg2, hg2'⟩ := hgr2
     have hrow2 := oFrm Hown2.u Hfill.u.frm (fun j hj => by simp [Value.ownBlock] at hj; subst hj; exact ⟨by omega, by omega⟩)
     have hck := oCell hrow2 (j := k) (u := .string sk) (by rw [List.getElem?_map, hsk]; rfl)
     have hle := Hfill.u.le
     clear hrow2
     go_wp2_with fail
     refine (split_at sk 45 45 rfl _ hskz).mono ?_
     rintro e w3 ⟨v3, ss3, rfl, hss3, hown3, hb3⟩
     rw [hskL, hcut] at hss3
     obtain ⟨sa, sb, rfl, hsa, hsb⟩ := two_strings hss3
     obtain ⟨g3, cap3, rfl, hg3, hg3'⟩ := oSome hown3 (by simp)
     have hc30 := oCell hown3 (j := 0) rfl
     have hc31 := oCell hown3 (j := 1) rfl
     have hva := day_val sa pk.1 hsa hday.1
     have hvb := day_val sb pk.2 hsb hday.2
     have Hb3 := hI hb3
     have hsz3 := hb3.size
     obtain ⟨hva1, hva2⟩ := hva
     have Hva2 := hI hva2
     obtain ⟨hvb1, hvb2⟩ := hvb
     have Hvb2 := hI hvb2
     have Hsa := hI hsa
     have Hsb := hI hsb
     have Hday := hI hday
     clear hown3 hb3 hss3 hcut hskL hsk hsa hsb hva2 hvb2 hday hck hskz
     obtain ⟨aof, capf, hvf⟩ := oForm Hfill.u.rf
     obtain ⟨aot, capt, hvt⟩ := oForm Hfill.u.rt
     subst hvf hvt
     have HB := hI (Hfill.u.blk.kept Hb3.u)
     have hf0 := HB.u.cell 0
     have hf1 := HB.u.cell 1
     have hz0' := HB.u.frozen 0
     have hz1' := HB.u.frozen 1
     simp only [List.getElem?_toArray, List.getElem?_cons_zero, List.getElem?_cons_succ] at hf0 hf1
     go_wp2_with fail
     refine (value_any sa _ hva1 Hva2.u).mono ?_
     rintro e w4 ⟨rfl, hv0, hv1, rfl⟩
     rw [Hsa.u] at hv0 hv1 ⊢
     go_wp2_with fail
     refine (value_any sb _ hvb1 Hvb2.u).mono ?_
     rintro e w4 ⟨rfl, hu0, hu1, rfl⟩
     rw [Hsb.u] at hu0 hu1 ⊢
     have Hrf := hI (oBelow Hfill.u.rf Hb3.u)
     have Hrt := hI (oBelow Hfill.u.rt Hb3.u)
     have Hlt := hI Hfill.u.lt
     have Hap := hI (apart_symm Hfill.u.apart)
     go_wp2_with (first
         | (at_builtin; refine wpList_append_own_at _ rfl (.tmp 37) (.tmp 39) 28 rfl w2.heap.size 3 ii (.int .i64 0) 1 8 Tryz.underlying28 hi hz0 hz1 hz2 rfl (by decide) (.slice aof k capf) k _ rfl (Hrf.u.alloc _) ⟨w4.heap.size, 0, none⟩ 1 1 [.int .i64 (val pk.1)] rfl rfl (cell_one_new _ _ _) (fun x hx => by simp at hx; subst hx; rfl) (by unfold maxLen; omega) (by omega) (by simp; omega) ?_; intro vf' w5 hown5 hgr5 _ hat5; obtain ⟨gf, cf, rfl, hgf, hgf'⟩ := oSome hown5 (Nat.succ_pos _); have HB5 := hI ((HB.u.alloc _).grown hgr5 (own_ne Hrf.u Hlt.u)); have a0 := HB5.u.frozen 0; have a1 := HB5.u.cell 1; have a2 := HB5.u.frozen 1; have a3 := HB5.u.cell 0; simp only [List.getElem?_toArray, List.getElem?_cons_zero, List.getElem?_cons_succ] at a1 a3; have Hown5 := hI hown5; have Hgr5 := hI hgr5; have Hat5 := hI hat5; have hsz5 := hgr5.size; clear hown5 hgr5 hat5 hf0 hf1 hz0' hz1')
         | (at_builtin; refine wpList_append_own_at _ rfl (.tmp 43) (.tmp 45) 28 rfl w2.heap.size 3 ii (.int .i64 0) 1 8 Tryz.underlying28 hi hz0 hz1 hz2 rfl (by decide) (.slice aot k capt) k _ rfl ((ownsRow_setCell_below ((Hrt.u.alloc _).kept Hgr5.u Hap.u) Hlt.u _).alloc _) ⟨w5.heap.size, 0, none⟩ 1 1 [.int .i64 (val pk.2)] rfl rfl (cell_one_new' _ _ (by simp [World.setCell]) _ _) (fun x hx => by simp at hx; subst hx; rfl) (by unfold maxLen; omega) (by omega) (by simp [World.setCell]; omega) ?_; intro vt' w6 hown6 hgr6 _ hat6; obtain ⟨gt, ct, rfl, hgt, hgt'⟩ := oSome hown6 (Nat.succ_pos _); have HB6 := hI (((HB5.u.set 0 (.slice (some ⟨gf, 0, none⟩) (k + 1) cf)).alloc _).grown hgr6 (own_ne Hrt.u Hlt.u)); have b1 := HB6.u.frozen 1; have b2 := HB6.u.cell 1; have Hown6 := hI hown6; have Hgr6 := hI hgr6; have Hat6 := hI hat6; have hsz6 := hgr6.size; simp at b2; clear hown6 hgr6 hat6 a0 a1 a2 a3))
     go_roundw
     case rel =>
       refine ⟨k + 1, .slice (some ⟨gf, 0, none⟩) (k + 1) cf, .slice (some ⟨gt, 0, none⟩) (k + 1) ct, by omega, by go_num, ?_⟩
       have hpdk : pd.take (k + 1) = pd.take k ++ [pk] := by rw [List.take_add_one, hpk]; rfl
       have hs5 : w4.heap.size < w5.heap.size := by simp at hsz5; omega
       have hs6 : w5.heap.size < w6.heap.size := by simp [World.setCell] at hsz6; omega
       have hne : (Value.slice (some ⟨gf, 0, none⟩) (k + 1) cf).ownBlock ≠ (Value.slice aot k capt).ownBlock := by
         intro e
         have h7 := Hrt.u.lt gf e.symm
         rcases Hat5.u with h8 | h8
         · rcases Hfill.u.apart with h9 | h9
           · rw [h9] at h8; simp [Value.ownBlock] at h8
           · exact h9 (h8.symm.trans e)
         · simp [Value.ownBlock] at h8; omega
       refine ⟨?_, ?_, ?_, ?_, ?_, Hlt.u, ?_⟩
       · have := HB6.u.set 1 (.slice (some ⟨gt, 0, none⟩) (k + 1) ct)
         simpa using this
       · rw [hpdk, List.map_append]
         exact ownsRow_setCell_below (((ownsRow_setCell_below Hown5.u Hlt.u _).alloc _).kept Hgr6.u (.inr hne)) Hlt.u _
       · rw [hpdk, List.map_append]
         exact ownsRow_setCell_below Hown6.u Hlt.u _
       · refine .inr ?_
         rcases Hat6.u with e | e
         · rw [e]; exact hne
         · rw [e]; simp [Value.ownBlock, World.setCell]; omega
       · have f1 := (((Hfill.u.frm.then Hfill.u.le Hb3.u).alloc (by omega) _).grown Hgr5.u (by simp; omega) (fun g hg => .inl (Hrf.u.lt g hg).1))
         exact (((f1.setCell (.inr rfl) _).alloc (by simp [World.setCell]; omega) _).grown Hgr6.u (by simp [World.setCell]; omega) (fun g hg => .inl (Hrt.u.lt g hg).1)).setCell (.inr rfl) _
       · simp [World.setCell]; omega
     case measure => simp [intOf]; omega
   · obtain rfl : k = pd.length := by omega
     have hrow1 := oFrm (oBelow Hown1.u Hb2.u) Hfill.u.frm (fun j hj => by simp [Value.ownBlock] at hj; subst hj; exact ⟨by omega, by simp at hg1; omega⟩)
     have hc11' := oCell hrow1 (j := 1) rfl
     have hle := Hfill.u.le
     clear hrow1 hc10 hc11
     go_wp2_with fail
     refine (split_at sy 59 59 rfl _ hyz).mono ?_
     rintro e w3 ⟨v3, ss3, rfl, hss3, hown3, hb3⟩
     rw [Hy.u, H3.u] at hss3
     obtain ⟨ao3, cap3, rfl⟩ := oForm hown3
     obtain ⟨aof, capf, hvf⟩ := oForm Hfill.u.rf
     obtain ⟨aot, capt, hvt⟩ := oForm Hfill.u.rt
     subst hvf hvt
     have HB := hI (Hfill.u.blk.kept hb3)
     have HB0' : Hid (Blk w3 w.heap.size #[.slice none 0 0, .slice none 0 0, .slice none 0 0] 129) :=
       ((HB0.u.kept Hb2.u).frm Hfill.u.frm (by have := Hfill.u.lt; omega) (by simp)).kept hb3
     have f0 := HB.u.cell 0
     have f1 := HB.u.cell 1
     have f2 := HB.u.cell 2
     have z2 := HB.u.frozen 2
     have y0 := HB0'.u.frozen 0
     have y1 := HB0'.u.frozen 1
     have y2 := HB0'.u.frozen 2
     have x0 := HB0'.u.cell 0
     have x1 := HB0'.u.cell 1
     have x2 := HB0'.u.cell 2
     simp only [List.getElem?_toArray, List.getElem?_cons_zero, List.getElem?_cons_succ] at f0 f1 f2 x0 x1 x2
     have Hss3 := hI hss3
     have Hown3 := hI hown3
     have Hb3 := hI hb3
     clear hss3 hown3 hb3
     go_wp2_with fail
     have hlt0 := Hfill.u.lt
     have hsz3 := Hb3.u.size
     refine bodyPost_ret (v := .agg #[.slice aof pd.length capf, .slice aot pd.length capt, .slice ao3 ss3.length cap3]) (by simp [results, Tryz.results110, go_sem, x0, x1, x2]) rfl ⟨_, _, _, ss3, rfl, Hss3.u, ?_, ?_, ?_, ?_⟩
     · have r1 := oBelow Hfill.u.rf Hb3.u
       rw [List.take_length] at r1
       exact oBase (ownsRow_setCell_below (ownsRow_setCell_below (ownsRow_setCell_below (ownsRow_setCell_below r1 (by simp; omega) _) (by simp; omega) _) (by simp; omega) _) (by simp; omega) _) (fun g hg => by have := (r1.lt g hg).1; omega)
     · have r1 := oBelow Hfill.u.rt Hb3.u
       rw [List.take_length] at r1
       exact oBase (ownsRow_setCell_below (ownsRow_setCell_below (ownsRow_setCell_below (ownsRow_setCell_below r1 (by simp; omega) _) (by simp; omega) _) (by simp; omega) _) (by simp; omega) _) (fun g hg => by have := (r1.lt g hg).1; omega)
     · have r1 := Hown3.u
       exact oBase (ownsRow_setCell_below (ownsRow_setCell_below (ownsRow_setCell_below (ownsRow_setCell_below r1 (by simp; omega) _) (by simp; omega) _) (by simp; omega) _) (by simp; omega) _) (fun g hg => by have := (r1.lt g hg).1; omega)
     · have b0 : Below w.heap.size w w1 := (((Below.refl _ _).alloc (Nat.le_refl _) _).alloc (by simp) _).then' (by simp; omega) Hb1.u
       have b1 : Below w.heap.size w w2 := b0.then' (by omega) Hb2.u
       have b2 : Below w.heap.size w wr := b1.trans (Hfill.u.frm.below (by omega) (fun k hk => by omega))
       exact ((((b2.then' (by omega) Hb3.u).setCell (by simp) _).setCell (by simp) _).setCell (by simp) _).setCell (by simp) _
end Go.Proofs.YtdchbenfccofpaaGreatDoor
