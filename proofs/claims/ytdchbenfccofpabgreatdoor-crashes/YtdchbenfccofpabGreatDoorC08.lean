/- What a book has written, mounted, is that book. Mount. A keeper's disk: empty, image. The form of a report: how the document's spots go on over pieces of a text. The form of a report, on: operands with a sign; where a text stops. The shape of rows without blanks: how cutting them goes over their pieces. Expressions, terms and factors without blanks: each is cut as the document says. Operands; what reading a factor, a term, an expression comes to. The reader: where it lies, what a call leaves of the rest; walks of skipBlanks, next. -/
import Derived.Test.YtdchbenfccofpabGreatDoorC07
import Derived.Lib.AppendStr
import Derived.Test.YtdchbenfccofpabGreatDoorC02
import Derived.Test.YtdchbenfccofpabGreatDoorC01
import Derived.Deep.LoopGhost
namespace Go.Proofs.YtdchbenfccofpabGreatDoor
open Go.RowKit Db

theorem le_drop_nB (n : Int) (h : AmtOk n) (l r : List UInt8) (k : Nat) (hk : l.length = k) : nmb (l ++ nB n ++ r) k = n := by
  unfold nmb
  rw [List.append_assoc, List.drop_append_of_le_length (by omega), List.drop_of_length_le (by omega), List.nil_append, List.take_append_of_le_length (by rw [nB_length]; omega), List.take_of_length_le (by rw [nB_length]; omega), nB_le n h.1 h.2]
  omega
theorem lnB_at {ls : List Ln} {j : Nat} {l : Ln} (h : ls[j]? = some l) : ∃ A R, lnB ls = A ++ nB l.1 ++ nB l.2 ++ R ∧ A.length = 12 * j := by
  have hj : j < ls.length := (List.getElem?_eq_some_iff.1 h).1
  refine ⟨lnB (ls.take j), lnB (ls.drop (j + 1)), ?_, ?_⟩
  · have h1 : ls = ls.take (j + 1) ++ ls.drop (j + 1) := (List.take_append_drop _ _).symm
    have h2 : lnB ls = lnB (ls.take (j + 1)) ++ lnB (ls.drop (j + 1)) := by
      conv => lhs; rw [h1]
      unfold lnB; rw [List.flatMap_append]
    rw [h2, lnB_take h]
  · rw [lnB_length, List.length_take]; omega
/-- A record that was laid reads as it was. -/
theorem rdR_sec {k : Nat} {n d : Int} {ls : List Ln} (hk : k < 256) (hn : AmtOk n) (hd : AmtOk d) (h4 : ls.length ≤ 4) (hls : ∀ l ∈ ls, AmtOk l.1 ∧ AmtOk l.2) : rdR (secL k n d ls) = ((k : Int), n, d, ls) := by
  obtain ⟨z, hz⟩ : ∃ z, secL k n d ls = secP k n d ls ++ z := ⟨_, rfl⟩
  have e0 : secL k n d ls = UInt8.ofNat k :: UInt8.ofNat ls.length :: (nB n ++ nB d ++ lnB ls ++ z) := by
    rw [hz]; unfold secP secH; simp
  have c0 : ((secL k n d ls).getD 0 0).toNat = k := by rw [e0]; simp; omega
  have c1 : rdC (secL k n d ls) = ls.length := by
    unfold rdC
    rw [e0]
    simp
    omega
  have m0 : nmb (secL k n d ls) 2 = n := by
    have e : secL k n d ls = [UInt8.ofNat k, UInt8.ofNat ls.length] ++ nB n ++ (nB d ++ lnB ls ++ z) := by rw [e0]; simp
    rw [e]; exact le_drop_nB n hn _ _ 2 rfl
  have m1 : nmb (secL k n d ls) 8 = d := by
    have e : secL k n d ls = ([UInt8.ofNat k, UInt8.ofNat ls.length] ++ nB n) ++ nB d ++ (lnB ls ++ z) := by rw [e0]; simp
    rw [e]; exact le_drop_nB d hd _ _ 8 (by simp [nB_length])
  have m2 : rdLs (secL k n d ls) = ls := by
    refine List.ext_getElem? fun j => ?_
    unfold rdLs
    rw [c1, List.getElem?_map]
    by_cases hj : j < ls.length
    · obtain ⟨l, hl⟩ : ∃ l, ls[j]? = some l := ⟨ls[j], List.getElem?_eq_getElem hj⟩
      have ho := hls l (List.mem_of_getElem? hl)
      obtain ⟨A, R, hA, hAl⟩ := lnB_at hl
      have p0 : nmb (secL k n d ls) (14 + 12 * j) = l.1 := by
        have e : secL k n d ls = ([UInt8.ofNat k, UInt8.ofNat ls.length] ++ nB n ++ nB d ++ A) ++ nB l.1 ++ (nB l.2 ++ R ++ z) := by rw [e0, hA]; simp
        rw [e]; exact le_drop_nB l.1 ho.1 _ _ _ (by simp [nB_length, hAl]; omega)
      have p1 : nmb (secL k n d ls) (20 + 12 * j) = l.2 := by
        have e : secL k n d ls = ([UInt8.ofNat k, UInt8.ofNat ls.length] ++ nB n ++ nB d ++ A ++ nB l.1) ++ nB l.2 ++ (R ++ z) := by rw [e0, hA]; simp
        rw [e]; exact le_drop_nB l.2 ho.2 _ _ _ (by simp [nB_length, hAl]; omega)
      rw [List.getElem?_range hj, hl]
      simp only [Option.map_some, p0, p1]
    · rw [List.getElem?_eq_none (by simpa using hj), List.getElem?_eq_none (by omega)]; rfl
  unfold rdR
  rw [c0, m0, m1, m2]
theorem rdR_zero : (rdR (List.replicate 64 0)).1 = 0 := by
  unfold rdR
  simp
theorem redo_zero (t : KS) (r : Rc) (h : r.1 = 0) : redoS t r = t := by
  unfold redoS kstep clE clY
  rw [h]
  simp [dkU, dkW]
/-- Records that were said yes to, one behind the other. -/
def RcOk (r : Rc) : Prop := (r.1 = 1 ∨ r.1 = 2 ∨ r.1 = 3) ∧ AmtOk r.2.1 ∧ AmtOk r.2.2.1 ∧ r.2.2.2.length ≤ 4 ∧ ∀ l ∈ r.2.2.2, AmtOk l.1 ∧ AmtOk l.2
def secR (r : Rc) : List UInt8 := secL r.1.toNat r.2.1 r.2.2.1 r.2.2.2
theorem secR_len {r : Rc} (h : RcOk r) : (secR r).length = 64 := secL_length _ _ _ _ h.2.2.2.1
theorem rdR_secR {r : Rc} (h : RcOk r) : rdR (secR r) = r := by
  obtain ⟨k, n, d, ls⟩ := r
  unfold secR
  have hk : k.toNat < 256 ∧ ((k.toNat : Nat) : Int) = k := by
    have := h.1
    simp only at this
    omega
  rw [rdR_sec hk.1 h.2.1 h.2.2.1 h.2.2.2.1 h.2.2.2.2]
  simp only
  rw [hk.2]
/-- A log: how the book stands behind it, how the disk looks. -/
inductive Log : List Rc → KS → Prop where
  | nil : Log [] ⟨bk0, 0, []⟩
  | more {rs : List Rc} {t : KS} {r : Rc} : Log rs t → RcOk r → clY t.s r.1 r.2.1 r.2.2.1 r.2.2.2 = true → clX r.1 r.2.1 r.2.2.1 r.2.2.2 = ⟨(secR r).toArray⟩ → Log (rs ++ [r]) (redoS t r)
def wsOf (k : Nat) (r : Rc) : List Wr := [((k : Int), ⟨(secR r).toArray⟩), (-1, ⟨#[]⟩)]
theorem Log.facts {rs : List Rc} {t : KS} (h : Log rs t) : t.u = rs.length ∧ t = rs.foldl redoS ⟨bk0, 0, []⟩ ∧ (∀ r ∈ rs, RcOk r) ∧ BkGood t.s := by
  induction h with
  | nil => exact ⟨rfl, rfl, by simp, good0⟩
  | @more rs t r _ hr hy hx ih =>
    obtain ⟨h1, h2, h3, h4⟩ := ih
    refine ⟨?_, ?_, ?_, ?_⟩
    · unfold redoS kstep
      simp only
      rw [hy]
      simp [dkU, h1]
    · rw [List.foldl_append, ← h2]; rfl
    · intro x hx'
      rcases List.mem_append.1 hx' with hx' | hx'
      · exact h3 x hx'
      · simp only [List.mem_singleton] at hx'
        subst hx'; exact hr
    · exact clE_good h4 _ _ _ _
/-- How a disk looks: the records' sectors, then noughts. -/
def dskL (rs : List Rc) : List UInt8 := rs.flatMap secR ++ List.replicate (8192 - 64 * rs.length) 0
theorem flat_secR_len {rs : List Rc} (h : ∀ r ∈ rs, RcOk r) : (rs.flatMap secR).length = 64 * rs.length := by
  induction rs with
  | nil => rfl
  | cons r t ih =>
    rw [List.flatMap_cons, List.length_append, secR_len (h r (by simp)), ih (fun x hx => h x (by simp [hx])), List.length_cons]
    omega
theorem put_mid (A Z : List UInt8) (c x : UInt8) : put (A ++ x :: Z) (A.length : Int) c = A ++ c :: Z := by
  unfold put
  rw [if_pos ⟨by omega, by simp; omega⟩]
  simp
theorem paste_mid (d : List UInt8) : ∀ (A X Z : List UInt8), X.length = d.length → paste (A ++ X ++ Z) (A.length : Int) d = A ++ d ++ Z := by
  induction d with
  | nil => intro A X Z h; obtain rfl := List.length_eq_zero_iff.1 h; rfl
  | cons c r ih =>
    intro A X Z h
    cases X with
    | nil => simp at h
    | cons x X =>
      simp only [paste]
      rw [List.append_assoc, List.cons_append, put_mid]
      have := ih (A ++ [c]) X Z (by simpa using h)
      simp only [List.append_assoc, List.cons_append, List.nil_append, List.length_append, List.length_cons, List.length_nil] at this ⊢
      have e : ((A.length : Int) + 1) = ((A.length + (0 + 1) : Nat) : Int) := by omega
      rw [e]
      exact this
theorem dskL_more {rs : List Rc} {r : Rc} (h : ∀ x ∈ rs, RcOk x) (hr : RcOk r) (hl : rs.length < 128) : paste (dskL rs) ((rs.length : Int) * 64) (secR r) = dskL (rs ++ [r]) := by
  have h1 := flat_secR_len h
  have h2 := secR_len hr
  unfold dskL
  have e1 : List.replicate (8192 - 64 * rs.length) (0 : UInt8) = List.replicate 64 0 ++ List.replicate (8192 - 64 * (rs.length + 1)) 0 := by
    rw [List.replicate_append_replicate]; congr 1; omega
  rw [e1, ← List.append_assoc]
  have e2 : ((rs.length : Int) * 64) = ((rs.flatMap secR).length : Int) := by rw [h1]; omega
  rw [e2, paste_mid (secR r) _ _ _ (by rw [h2, List.length_replicate])]
  simp
theorem Log.img {rs : List Rc} {t : KS} (h : Log rs t) (hl : rs.length ≤ 128) : imgL t.ws = dskL rs := by
  induction h with
  | nil => rfl
  | @more rs t r hlog hr hy hx ih =>
    obtain ⟨h1, _, h3, _⟩ := hlog.facts
    rw [List.length_append, List.length_singleton] at hl
    have e : (redoS t r).ws = t.ws ++ [((t.u : Int), ⟨(secR r).toArray⟩), (-1, ⟨#[]⟩)] := by
      unfold redoS kstep
      simp only
      rw [hy, hx]
      rfl
    rw [e]
    unfold imgL at ih ⊢
    rw [List.foldl_append, ih (by omega)]
    simp only [List.foldl_cons, List.foldl_nil]
    have e2 : pasteW (dskL rs) ((t.u : Int), ⟨(secR r).toArray⟩) = dskL (rs ++ [r]) := by
      unfold pasteW
      simp only
      rw [L_list, h1]
      exact dskL_more h3 hr (by omega)
    rw [e2]
    rfl
theorem sec_dsk {rs : List Rc} (h : ∀ x ∈ rs, RcOk x) {i : Nat} (hi : i < 128) : secOf (dskL rs) i = match rs[i]? with | some r => secR r | none => List.replicate 64 0 := by
  have h1 := flat_secR_len h
  unfold secOf dskL
  cases hr : rs[i]? with
  | some r =>
    simp only
    have hir : i < rs.length := (List.getElem?_eq_some_iff.1 hr).1
    have e : rs.flatMap secR = (rs.take i).flatMap secR ++ secR r ++ (rs.drop (i + 1)).flatMap secR := by
      conv => lhs; rw [← List.take_append_drop (i + 1) rs, List.flatMap_append, List.take_add_one, hr]
      simp
    have e1 : ((rs.take i).flatMap secR).length = 64 * i := by
      rw [flat_secR_len (fun x hx => h x (List.mem_of_mem_take hx)), List.length_take]; omega
    rw [e, List.append_assoc, List.append_assoc, List.drop_append_of_le_length (by omega), List.drop_of_length_le (by omega), List.nil_append, List.take_append_of_le_length (by rw [secR_len (h r (List.mem_of_getElem? hr))]; omega), List.take_of_length_le (by rw [secR_len (h r (List.mem_of_getElem? hr))]; omega)]
  | none =>
    simp only
    have hir : rs.length ≤ i := List.getElem?_eq_none_iff.1 hr
    rw [List.drop_append, List.drop_of_length_le (by omega), List.nil_append, h1, List.drop_replicate, List.take_replicate]
    congr 1
    omega
/-- Mounted, a log's disk is the log's book. -/
theorem Log.mount {rs : List Rc} {t : KS} (h : Log rs t) (hl : rs.length ≤ 128) : mntS (dskL rs) = t ∧ ImgOk (dskL rs) := by
  obtain ⟨h1, h2, h3, _⟩ := h.facts
  have key : ∀ (l : List Rc) (T : KS), (∀ r ∈ l, r.1 = 0) → l.foldl redoS T = T := by
    intro l
    induction l with
    | nil => intro T _; rfl
    | cons r k ih => intro T hz; rw [List.foldl_cons, redo_zero T r (hz r (by simp)), ih T (fun x hx => hz x (by simp [hx]))]
  have hr : rcs (dskL rs) = rs ++ List.replicate (128 - rs.length) (rdR (List.replicate 64 0)) := by
    refine List.ext_getElem? fun i => ?_
    unfold rcs
    rw [List.getElem?_map]
    by_cases hi : i < 128
    · rw [List.getElem?_range hi]
      simp only [Option.map_some]
      rw [sec_dsk h3 hi]
      by_cases hir : i < rs.length
      · obtain ⟨r, hrr⟩ : ∃ r, rs[i]? = some r := ⟨rs[i], List.getElem?_eq_getElem hir⟩
        rw [List.getElem?_append_left hir, hrr]
        simp only
        rw [rdR_secR (h3 r (List.mem_of_getElem? hrr))]
      · rw [List.getElem?_append_right (by omega), List.getElem?_eq_none (l := rs) (by omega), List.getElem?_replicate, if_pos (by omega)]
    · rw [List.getElem?_eq_none (by simpa using hi), List.getElem?_eq_none (by simp; omega)]
      rfl
  have hm : mntS (dskL rs) = t := by
    unfold mntS
    rw [hr, List.foldl_append, ← h2]
    exact key _ t (fun r hx => by rw [List.eq_of_mem_replicate hx]; exact rdR_zero)
  refine ⟨hm, ?_, ?_⟩
  · unfold dskL
    rw [List.length_append, flat_secR_len h3, List.length_replicate]; omega
  · rw [hm]; exact h.img hl

end Go.Proofs.YtdchbenfccofpabGreatDoor
namespace Go.Proofs.YtdchbenfccofpabGreatDoor
open Go.RowKit Db

theorem LedW.facts {w : World} {B p u : Nat} {ws : List Wr} {s : Bk} (h : LedW w B p u ws s) : BkGood s ∧ u ≤ 95 ∧ ws.length ≤ 190 := by
  obtain ⟨va, vt, tv, vw, h⟩ := h
  have h1 := cnt_bound h.good
  have h2 := h.dcnt
  have h3 := h.dlen
  simp only at h2 h3
  exact ⟨h.good, by omega, by omega⟩
theorem LedW.base {w : World} {B B' p u : Nat} {ws : List Wr} {s : Bk} (h : LedW w B p u ws s) (hB : B' ≤ B) : LedW w B' p u ws s := by
  obtain ⟨va, vt, tv, vw, h⟩ := h
  have down : ∀ {e : TypeId} {size : Nat} {v : Value} {n : Nat} {xs : List Value}, w.ownsRow B e size v n xs → w.ownsRow B' e size v n xs := fun h => ownsRow_base h (fun k hk => Nat.le_trans hB (ownsRow_tg h k hk).1)
  exact ⟨va, vt, tv, vw, h.blk, Nat.le_trans hB h.lo, down h.acs, ⟨down h.txs.own, fun x hx => down (h.txs.lns x hx)⟩, h.jr, h.good, down h.dsk, h.dlen, h.dcnt⟩
theorem rcs_len (img : List UInt8) : (rcs img).length = 128 := by unfold rcs; simp
theorem fold_step {l : List Rc} {j : Nat} {x : Rc} {t : KS} (h : l[j]? = some x) : (l.take (j + 1)).foldl redoS t = redoS ((l.take j).foldl redoS t) x := by
  rw [List.take_add_one, h]; simp

set_option maxRecDepth 100000 in
set_option maxHeartbeats 4000000 in
theorem mount_any (t : ByteArray) (w : World) :
    Calls Tryz.prog 26 #[.string t] w fun e w' => ((¬ ImgOk (L t) ∧ e = .returned (.tuple #[.pointer none, .int .i64 18])) ∨ (ImgOk (L t) ∧ ∃ p, e = .returned (.tuple #[.pointer (some ⟨p, 0, none⟩), .int .i64 0]) ∧ LedW w' w.heap.size p (mntS (L t)).u [] (mntS (L t)).s)) ∧ Below w.heap.size w w' := by
  by_cases hs : t.size = 8192
  · go_enter Tryz.func26, Tryz.ntmps26
    have hne : ((t.size : Int) != 8192) = false := by simp; omega
    go_wp2_with fail
    refine (dayNew_any _).mono ?_
    rintro e w1 ⟨p, rfl, h1, hb1⟩
    have H1 := hide h1
    have Hb1 := hide hb1
    have hsz1 := hb1.size
    clear h1 hb1
    go_wp2_with fail
    refine (records_any t w1 hs).mono ?_
    rintro e w2 ⟨vr, rv, rfl, hr, hm, hb2⟩
    obtain ⟨ar, cr, rfl⟩ := ownsRow_form hr.own
    have hrl : rv.length = 128 := by have := congrArg List.length hm; rw [List.length_map, rcs_len] at this; exact this
    have Hr := hide hr
    have Hm := hide hm
    have H2 := hide ((unhide H1).kept hb2)
    have Hb2 := hide ((unhide Hb1).then hb2)
    have hsz2 := hb2.size
    clear hr hm hb2 H1
    go_wp2_with fail
    go_loopg [17] 128 (fun m vi wr => ∃ j : Nat, j ≤ 128 ∧ m = 128 - j ∧ vi = .int .i64 j ∧ Hid (LedW wr w.heap.size p (((rcs (L t)).take j).foldl redoS ⟨bk0, 0, []⟩).u (((rcs (L t)).take j).foldl redoS ⟨bk0, 0, []⟩).ws (((rcs (L t)).take j).foldl redoS ⟨bk0, 0, []⟩).s) ∧ Hid (WsOk (((rcs (L t)).take j).foldl redoS ⟨bk0, 0, []⟩).ws) ∧ Hid (RcsAt wr w1.heap.size (.slice ar rv.length cr) rv) ∧ Hid (Below w.heap.size w wr))
    case atStart => exact ⟨0, by omega, rfl, rfl, unhide H2, (fun x hx => by simp at hx), unhide Hr, unhide Hb2⟩
    case round =>
      obtain ⟨j, hj, rfl, rfl, HL, Hws, Hrr, Hb⟩ := hrel
      have hszr := (unhide Hb).size
      by_cases hlt : j < 128
      · obtain ⟨⟨⟨K, A, D, ls⟩, vl⟩, hx⟩ : ∃ x, rv[j]? = some x := ⟨rv[j]'(by omega), List.getElem?_eq_getElem _⟩
        have hxr : (rcs (L t))[j]? = some (K, A, D, ls) := by rw [← unhide Hm, List.getElem?_map, hx]; rfl
        have hst := fold_step (t := ⟨bk0, 0, []⟩) hxr
        obtain ⟨T, hT⟩ : ∃ T, ((rcs (L t)).take j).foldl redoS ⟨bk0, 0, []⟩ = T := ⟨_, rfl⟩
        rw [hT] at HL Hws hst
        have Hst := hide hst
        have hfx := (unhide HL).facts
        have h4 := four_get (fun a : Rc × Value => Value.int .u8 a.1.1) (fun a => .int .i64 a.1.2.1) (fun a => .int .i64 a.1.2.2.1) (fun a => a.2) rv j ((K, A, D, ls), vl) hx
        obtain ⟨gr, _, e1, hgr, hgr'⟩ := ownsRow_some (unhide Hrr).own (by omega)
        simp only [Value.slice.injEq, true_and] at e1
        obtain ⟨rfl, rfl⟩ := e1
        have d0 := ownsRow_cell (unhide Hrr).own (j := j * 4) h4.1
        have d1 := ownsRow_cell (unhide Hrr).own (j := j * 4 + 1) h4.2.1
        have d2 := ownsRow_cell (unhide Hrr).own (j := j * 4 + 2) h4.2.2.1
        have d3 := ownsRow_cell (unhide Hrr).own (j := j * 4 + 3) h4.2.2.2
        have hln := (unhide Hrr).lns _ (List.mem_of_getElem? hx)
        simp only at d0 d1 d2 d3 hln
        obtain ⟨al, cl, rfl⟩ := ownsRow_form hln
        have Hws2 := hide ((unhide Hws).step (x := ⟨K, A, D, none, 0, ls⟩) hfx.1 hfx.2.1)
        obtain ⟨W, hW⟩ : ∃ W, wr.alloc (.cells #[.int .u8 K, .int .i64 A, .int .i64 D, .slice al ls.length cl] 101) = W := ⟨_, rfl⟩
        have HX : Hid (Blk W wr.heap.size #[.int .u8 K, .int .i64 A, .int .i64 D, .slice al ls.length cl] 101) := by rw [← hW]; exact Blk.new _ _ _
        have hbW : Below wr.heap.size wr W := by rw [← hW]; exact (Below.refl _ _).alloc (Nat.le_refl _) _
        have x0 := (unhide HX).cell 0
        have x1 := (unhide HX).cell 1
        have x2 := (unhide HX).cell 2
        have x3 := (unhide HX).cell 3
        simp only [List.getElem?_toArray, List.getElem?_cons_zero, List.getElem?_cons_succ] at x0 x1 x2 x3
        have hlW := ownsRow_below hln hbW
        have Hre := hide (redo_any w.heap.size p T K A D al cl ls W ((unhide HL).kept hbW) (LinesAt.of_own hlW) (fun k hk => (ownsRow_tg hlW k hk).2))
        have HrW := hide ((unhide Hrr).frT (FrT.of_below (B := 0) (Ts := []) hbW) (by simp) (by simp))
        have HbW := hide ((unhide Hb).trans (hbW.mono hszr))
        have hszW := hbW.size
        have jlt : (j : Int) < (rv.length : Int) := by omega
        clear hx hxr hst h4 hln hlW hbW hfx hT
        go_wp2_with fail
        try rw [hW]
        clear hW
        refine (unhide Hre).mono ?_
        rintro e w3 ⟨rfl, k1, k2⟩
        have HF : Hid (LedW w3 w.heap.size p (((rcs (L t)).take (j + 1)).foldl redoS ⟨bk0, 0, []⟩).u (((rcs (L t)).take (j + 1)).foldl redoS ⟨bk0, 0, []⟩).ws (((rcs (L t)).take (j + 1)).foldl redoS ⟨bk0, 0, []⟩).s) := by show LedW _ _ _ _ _ _; rw [unhide Hst]; exact k1
        have HFw : Hid (WsOk (((rcs (L t)).take (j + 1)).foldl redoS ⟨bk0, 0, []⟩).ws) := by show WsOk _; rw [unhide Hst]; exact unhide Hws2
        have Hr3 := hide ((unhide HrW).frT k2 (by decide) (by decide))
        have Hb3 := hide ((unhide HbW).trans (k2.below (by omega)))
        clear k1 k2 Hre
        go_wp2_with fail
        go_roundg (128 - (j + 1))
        case measure => omega
        case rel => exact ⟨j + 1, by omega, rfl, by go_num, unhide HF, unhide HFw, unhide Hr3, unhide Hb3⟩
      · obtain rfl : j = 128 := by omega
        have hall : (rcs (L t)).take 128 = rcs (L t) := List.take_of_length_le (by rw [rcs_len]; exact Nat.le_refl _)
        rw [hall] at HL Hws
        obtain ⟨T, hT⟩ : ∃ T, mntS (L t) = T := ⟨_, rfl⟩
        have hT2 : (rcs (L t)).foldl redoS ⟨bk0, 0, []⟩ = T := hT
        rw [hT2] at HL Hws
        have HT := hide hT
        have hfx := (unhide HL).facts
        clear hall hT2 hT
        go_wp2_with fail
        refine (dayWrites_any w.heap.size p T.u T.ws T.s wr (unhide HL)).mono ?_
        rintro e w3 ⟨⟨ao3, cap3, rfl, k1⟩, k2, k3⟩
        have HL3 := hide k2
        have Hb3 := hide ((unhide Hb).trans (k3.below hszr))
        have HW3 := hide k1
        have hsz3 := (unhide Hb3).size
        clear k1 k2 k3
        go_wp2_with fail
        refine (image_any wr.heap.size _ T.ws w3 (unhide HW3) (unhide Hws) (by omega)).mono ?_
        rintro e w4 ⟨u, rfl, hu, hb4⟩
        have HL4 := hide ((unhide HL3).kept hb4)
        have Hb4 := hide ((unhide Hb3).then' hsz3 hb4)
        have hLt : (L t).length = 8192 := by rw [L_length]; exact hs
        by_cases hok : imgL T.ws = L t
        · have hI : ImgOk (L t) := ⟨hLt, by rw [unhide HT]; exact hok⟩
          have HI := hide hI
          obtain rfl : u = t := L_inj (by rw [hu, hok])
          clear hu hb4 hok hI hLt
          go_wp2_with fail
          go_ret2
          exact ⟨.inr ⟨unhide HI, p, rfl, by rw [unhide HT]; exact unhide HL4⟩, unhide Hb4⟩
        · have hI : ¬ ImgOk (L t) := fun h => hok (by have := h.2; rw [unhide HT] at this; exact this)
          have HI := hide hI
          have q1 : ¬ u = t := fun e => hok (by rw [← hu, e])
          have q2 : (u.toList == t.toList) = false := by
            rw [beq_eq_false_iff_ne, ByteArray.toList_eq, ByteArray.toList_eq]
            exact fun e => q1 (L_inj e)
          clear hu hb4 hok hI hLt
          go_wp2_with fail
          go_ret2
          exact ⟨.inl ⟨unhide HI, rfl⟩, unhide Hb4⟩
  · have hI : ¬ ImgOk (L t) := fun h => hs (by have := h.1; rw [L_length] at this; exact this)
    have HI := hide hI
    have hne : ((t.size : Int) != 8192) = true := by simp; omega
    clear hI
    go_enter Tryz.func26, Tryz.ntmps26
    go_wp2_with fail
    go_ret2
    exact ⟨.inl ⟨unhide HI, rfl⟩, Below.refl _ _⟩

end Go.Proofs.YtdchbenfccofpabGreatDoor
namespace Go.Proofs.YtdchbenfccofpabGreatDoor
open Go.RowKit Db

theorem info_str : (Tryz.prog.info? 9).map (fun i => (i.zero, i.size, i.bytes)) = some (some (.string ⟨#[]⟩), 1, 16) := by kernel_rfl
theorem info_u8' : (Tryz.prog.info? 5).map (fun i => (i.zero, i.size, i.bytes)) = some (some (.int .u8 0), 1, 1) := by kernel_rfl
theorem str_new (w : World) (n : Nat) (hn : n = w.heap.size) (x : Value) (t : TypeId) : ∀ j e, [x][j]? = some e → (w.alloc (.cells #[x] t)).cell? ((⟨n, 0, none⟩ : Addr).add j) = some e := by
  subst hn
  intro j e h
  cases j with
  | zero => simp at h; subst h; exact (Blk.new w #[x] t).cell 0
  | succ j => simp at h
/-- How a keeper's disk lies. -/
def DskAt (w : World) (B p : Nat) (ss : List ByteArray) : Prop :=
  B ≤ p ∧ ∃ v, Blk w p #[v] 94 ∧ w.ownsRow B 9 1 v ss.length (ss.map Value.string)
theorem DskAt.frT {w w' : World} {B B' p : Nat} {ss : List ByteArray} {Ts : List TypeId} (h : DskAt w B p ss) (hf : FrT B' Ts w w') (h1 : 94 ∉ Ts) (h2 : 9 ∉ Ts) : DskAt w' B p ss := by
  obtain ⟨h0, v, hb, ho⟩ := h
  exact ⟨h0, v, hb.frT hf h1, ownsRow_frT ho hf h2⟩
theorem DskAt.kept {w w' : World} {B p : Nat} {ss : List ByteArray} (h : DskAt w B p ss) (hf : Below w.heap.size w w') : DskAt w' B p ss := h.frT (FrT.of_below (B := 0) (Ts := []) hf) (by simp) (by simp)
theorem strCells_U (s : ByteArray) : Lib.strCells s = cellsU (L s) := rfl
def zB : ByteArray := ⟨(List.replicate 64 (0 : UInt8)).toArray⟩

set_option maxRecDepth 100000 in
set_option maxHeartbeats 4000000 in
theorem empty_any (w : World) :
    Calls Tryz.prog 22 #[] w fun e w' => ∃ p, e = .returned (.pointer (some ⟨p, 0, none⟩)) ∧ DskAt w' w.heap.size p (List.replicate 128 zB) ∧ Below w.heap.size w w' := by
  obtain ⟨ii, hi, hz0, hz1, hz2⟩ := info_parts info_str
  have hmk := run_makeU 64 (by omega) w
  obtain ⟨g, hg⟩ : ∃ g, w.heap.size = g := ⟨_, rfl⟩
  obtain ⟨W, hW⟩ : ∃ W, w.alloc (.cells (madeCells #[.int .u8 0] 64) 5) = W := ⟨_, rfl⟩
  rw [hg, hW] at hmk
  have HW : W.ownsRow g 5 1 (.slice (some ⟨g, 0, none⟩) 64 64) (List.replicate 64 (0 : UInt8)).length (cellsU (List.replicate 64 0)) := by
    have h1 := owns_new (w := W) (B := g) (g := g) (e := 5) (size := 1) (n := 64) (cs := madeCells #[.int .u8 0] 64) (by rw [← hW, ← hg]; exact Blk.new _ _ _) (Nat.le_refl _) (by unfold maxLen; omega) (by rw [size_madeCells])
    rw [made_zeroU] at h1
    rw [List.length_replicate]
    exact h1
  have Hb0 : Hid (Below g w W) := by rw [← hW, ← hg]; exact (Below.refl _ _).alloc (Nat.le_refl _) _
  have hWs : W.heap.size = g + 1 := by rw [← hW, ← hg]; simp
  have hcv := conv_bytes _ W g _ HW (by simp)
  have hcv2 : (convert 64 9 (.slice (some ⟨g, 0, none⟩) 64 64)).run Tryz.prog W = .ok (.string zB) W := hcv
  have hmk2 : (Instr.makeSlice 64 (.int .i64 64) (.int .i64 64)).run Tryz.prog w = .ok (.slice (some ⟨g, 0, none⟩) 64 64) W := hmk
  obtain ⟨z, hz⟩ : ∃ z, zB = z := ⟨_, rfl⟩
  rw [hz] at hcv2 ⊢
  obtain ⟨W2, hW2⟩ : ∃ W2, W.alloc (.cells #[.slice none 0 0] 94) = W2 := ⟨_, rfl⟩
  have HX : Hid (DskAt W2 g (g + 1) []) := ⟨by omega, .slice none 0 0, by rw [← hW2, ← hWs]; exact Blk.new _ _ _, World.ownsRow_nil _ _ _ _⟩
  have Hb2 : Hid (Below g w W2) := by rw [← hW2]; exact (unhide Hb0).alloc (by omega) _
  have hW2s : W2.heap.size = g + 2 := by rw [← hW2]; simp; omega
  clear HW hmk hcv hW hz
  rw [hg]
  go_enter Tryz.func22, Tryz.ntmps22
  go_wp2_with fail
  try rw [hW2]
  try rw [hWs]
  clear hW2
  go_loopg [3] 128 (fun m vi wr => ∃ j : Nat, j ≤ 128 ∧ m = 128 - j ∧ vi = .int .i64 j ∧ Hid (DskAt wr g (g + 1) (List.replicate j z)) ∧ Hid (Below g w wr))
  case atStart => exact ⟨0, by omega, rfl, rfl, unhide HX, unhide Hb2⟩
  case round =>
    obtain ⟨j, hj, rfl, rfl, HD, Hb⟩ := hrel
    have hszr := (unhide Hb).size
    by_cases hlt : j < 128
    · obtain ⟨_, v, hbk, how⟩ := unhide HD
      rw [List.length_replicate] at how
      obtain ⟨ao, cap, rfl⟩ := ownsRow_form how
      have c0 := hbk.cell 0
      have z0 := hbk.frozen 0
      have l0 := hbk.lt
      simp only [List.getElem?_toArray, List.getElem?_cons_zero] at c0
      have Hbk := hide hbk
      have How := hide how
      clear hbk how
      go_wp2_with (first | (at_builtin; refine stopM ?_))
      show wpList _ _ _ _ _ _
      refine wpList_append_own _ rfl (.tmp 16) (.tmp 18) 92 rfl g 9 ii (.string ⟨#[]⟩) 1 16 Tryz.underlying92 hi hz0 hz1 hz2 rfl (by decide) (.slice ao j cap) j _ rfl ((unhide How).alloc _) ⟨wr.heap.size, 0, none⟩ 1 1 [.string z] rfl rfl (str_new _ _ rfl _ _) (fun x hx => by simp at hx; subst hx; rfl) (by unfold maxLen; omega) (by omega) (by simp; omega) ?_
      intro v5 w5 hown5 hgr5 _
      obtain ⟨gf, cf, rfl, hgf, hgf'⟩ := ownsRow_some hown5 (Nat.succ_pos _)
      have hblk5 := ((unhide Hbk).alloc _).grown hgr5 (blk_own_ne (unhide Hbk) (unhide How) (by decide))
      have hf5 : FrT g [9, 94] wr w5 := ((FrT.refl _ _ wr).alloc _).grown hgr5 (T := 9) (by simp) (fun k hk => ⟨(ownsRow_tg (unhide How) k hk).1, tg_alloc (ownsRow_tg (unhide How) k hk).2 _⟩)
      have c5 := hblk5.cell 0
      have z5 := hblk5.frozen 0
      have l5 := hblk5.lt
      simp only [List.getElem?_toArray, List.getElem?_cons_zero] at c5
      have Hb5 := hide ((unhide Hb).trans (((hf5.setCell (p := ⟨g + 1, 0, none⟩) (T := 94) (by simp) hblk5.tg (by show g ≤ g + 1; omega) (.slice (some ⟨gf, 0, none⟩) (j + 1) cf))).below (by omega)))
      have HD5 : Hid (DskAt (w5.setCell ⟨g + 1, 0, none⟩ (.slice (some ⟨gf, 0, none⟩) (j + 1) cf)) g (g + 1) (List.replicate (j + 1) z)) := by
        refine ⟨by omega, (.slice (some ⟨gf, 0, none⟩) (j + 1) cf), ?_, ?_⟩
        · have := hblk5.set 0 (.slice (some ⟨gf, 0, none⟩) (j + 1) cf)
          simpa using this
        · have := ownsRow_frT hown5 ((FrT.refl g [94] w5).setCell (p := ⟨g + 1, 0, none⟩) (T := 94) (by simp) hblk5.tg (by show g ≤ g + 1; omega) (.slice (some ⟨gf, 0, none⟩) (j + 1) cf)) (by decide)
          rw [List.replicate_succ', List.map_append, List.length_append, List.length_replicate]
          exact this
      clear hown5 hgr5 hblk5 hf5 c0 z0
      go_wp2_with fail
      go_roundg (128 - (j + 1))
      case measure => omega
      case rel => exact ⟨j + 1, by omega, rfl, by go_num, unhide HD5, unhide Hb5⟩
    · obtain rfl : j = 128 := by omega
      go_wp2_with fail
      go_ret
      exact ⟨g + 1, rfl, unhide HD, unhide Hb⟩

theorem flat_le {ss : List ByteArray} (h : ∀ s ∈ ss, s.size ≤ 64) : (ss.flatMap L).length ≤ 64 * ss.length := by
  induction ss with
  | nil => simp
  | cons s r ih =>
    have h1 := ih (fun x hx => h x (by simp [hx]))
    have h2 := h s (by simp)
    rw [List.flatMap_cons, List.length_append, L_length, List.length_cons]
    omega

set_option maxRecDepth 100000 in
set_option maxHeartbeats 4000000 in
theorem dimage_any (B p : Nat) (ss : List ByteArray) (w : World) (h : DskAt w B p ss) (hs : ∀ s ∈ ss, s.size ≤ 64) (hl : ss.length ≤ 1000) (hp : 0 < (ss.flatMap L).length) :
    Calls Tryz.prog 27 #[.pointer (some ⟨p, 0, none⟩)] w fun e w' => ∃ u : ByteArray, e = .returned (.string u) ∧ L u = ss.flatMap L ∧ Below w.heap.size w w' := by
  obtain ⟨ii, hi, hz0, hz1, hz2⟩ := info_parts info_u8'
  obtain ⟨g, hg⟩ : ∃ g, w.heap.size = g := ⟨_, rfl⟩
  rw [hg]
  have Hs := hide hs
  have H := hide h
  clear hs h
  go_enter Tryz.func27, Tryz.ntmps27
  go_wp2_with fail
  go_loopg [3, 4] ss.length (fun m vo vi wr => ∃ j : Nat, j ≤ ss.length ∧ m = ss.length - j ∧ vi = .int .i64 j ∧ Hid (wr.ownsRow g 5 1 vo ((ss.take j).flatMap L).length (cellsU ((ss.take j).flatMap L))) ∧ Hid (Below g w wr))
  case atStart => exact ⟨0, by omega, rfl, rfl, World.ownsRow_nil _ _ _ _, by rw [← hg]; exact Below.refl _ _⟩
  case round =>
    obtain ⟨j, hj, rfl, rfl, Ho, Hb⟩ := hrel
    have hszr := (unhide Hb).size
    obtain ⟨_, v, hbk, how⟩ := (unhide H).kept (by rw [hg]; exact unhide Hb)
    obtain ⟨ao, cap, rfl⟩ := ownsRow_form how
    have c0 := hbk.cell 0
    have l0 := hbk.lt
    simp only [List.getElem?_toArray, List.getElem?_cons_zero] at c0
    have How := hide how
    clear hbk how
    by_cases hlt : j < ss.length
    · obtain ⟨s, hx⟩ : ∃ x, ss[j]? = some x := ⟨ss[j], List.getElem?_eq_getElem hlt⟩
      have hsx := unhide Hs _ (List.mem_of_getElem? hx)
      obtain ⟨gs, _, e1, hgs, hgs'⟩ := ownsRow_some (unhide How) (by omega)
      simp only [Value.slice.injEq, true_and] at e1
      obtain ⟨rfl, rfl⟩ := e1
      have d0 := ownsRow_cell (unhide How) (j := j) (u := .string s) (by rw [List.getElem?_map, hx]; rfl)
      have hst : (ss.take (j + 1)).flatMap L = (ss.take j).flatMap L ++ L s := by rw [List.take_add_one, hx]; simp
      have hle : ((ss.take j).flatMap L).length ≤ 64000 := by
        have := flat_le (ss := ss.take j) (fun x hx' => unhide Hs x (List.mem_of_mem_take hx'))
        rw [List.length_take] at this; omega
      obtain ⟨cur, hcur⟩ : ∃ c, (ss.take j).flatMap L = c := ⟨_, rfl⟩
      rw [hcur] at Ho hst hle
      obtain ⟨ac, cc, rfl⟩ := ownsRow_form (unhide Ho)
      have Hst := hide hst
      have jlt : (j : Int) < (ss.length : Int) := by omega
      clear hx hcur hst
      go_wp2_with (first | (at_builtin; refine stopM ?_))
      show wpList _ _ _ _ _ _
      refine Lib.wpList_append_own_string _ rfl (.tmp 14) (.tmp 21) 64 9 rfl g 5 ii Tryz.underlying64 Tryz.underlying9 hi hz0 hz1 hz2 (.slice ac cur.length cc) cur.length _ rfl (unhide Ho) s rfl (by unfold maxLen; omega) (by omega) (by omega) ?_
      intro v5 w5 hown5 hgr5 _
      have hf5 : FrT g [5] wr w5 := (FrT.refl _ _ wr).grown hgr5 (T := 5) (by simp) (fun k hk => ownsRow_tg (unhide Ho) k hk)
      have Hb5 := hide ((unhide Hb).trans (hf5.below (by omega)))
      have Ho5 : Hid (w5.ownsRow g 5 1 v5 ((ss.take (j + 1)).flatMap L).length (cellsU ((ss.take (j + 1)).flatMap L))) := by
        show World.ownsRow _ _ _ _ _ _ _
        rw [unhide Hst, List.length_append, L_length]
        unfold cellsU
        rw [List.map_append]
        exact hown5
      clear hown5 hgr5 hf5
      go_wp2_with fail
      go_roundg (ss.length - (j + 1))
      case measure => omega
      case rel => exact ⟨j + 1, by omega, rfl, by go_num, unhide Ho5, unhide Hb5⟩
    · obtain rfl : j = ss.length := by omega
      rw [List.take_length] at Ho
      obtain ⟨F, hF⟩ : ∃ F, ss.flatMap L = F := ⟨_, rfl⟩
      rw [hF] at Ho hp
      have HF := hide hF
      clear hF
      have hcv := conv_bytes F wr g _ (unhide Ho) hp
      obtain ⟨ac, cc, rfl⟩ := ownsRow_form (unhide Ho)
      go_wp2_with fail
      go_ret
      exact ⟨_, rfl, by rw [unhide HF]; exact L_list _, unhide Hb⟩

end Go.Proofs.YtdchbenfccofpabGreatDoor
namespace Db

def hd : List UInt8 → Int
  | [] => 0
  | c :: _ => c.toNat
def Blanks (x : List UInt8) : Prop := ∀ c ∈ x, c.toNat = 32
theorem bare_blanks {x : List UInt8} (h : Blanks x) : bare x = [] := by
  unfold bare; rw [List.filter_eq_nil_iff]; intro c hc; simp [h c hc]

/-- Alike but for the digits, where these do not count. -/
def simD : Option (Int × Int × Int) → Option (Int × Int × Int) → Prop
  | none, none => True
  | some p, some q => p.1 = q.1 ∧ p.2.2 = q.2.2 ∧ (p.2.1 = q.2.1 ∨ p.1 = 6 ∨ p.1 = 8 ∨ p.1 = 9 ∨ p.1 = 10 ∨ p.1 = 11)
  | _, _ => False

/-- How many digits have been read does not count outside of days and numbers. -/
theorem plc_d (l : List UInt8) : ∀ (a d d' o i : Int), (a = 6 ∨ a = 8 ∨ a = 9 ∨ a = 10 ∨ a = 11) → plc a d o i l = plc a d' o i l := by
  induction l with
  | nil => intro a d d' o i _; rfl
  | cons c r ih =>
    intro a d d' o i ha
    have key : ∀ x y : Option (Int × Int × Int), simD x y →
        (match x with | none => i | some (a', d', o') => plc a' d' o' (i + 1) r) = (match y with | none => i | some (a', d', o') => plc a' d' o' (i + 1) r) := by
      intro x y h
      match x, y, h with
      | none, none, _ => rfl
      | some (a1, e1, o1), some (a2, e2, o2), ⟨h1, h2, h3⟩ =>
        simp only at h1 h2 h3 ⊢
        subst h1 h2
        rcases h3 with h3 | h3
        · rw [h3]
        · exact ih _ _ _ _ _ h3
    show (match stepS a d o c.toNat with | none => i | some (a', d', o') => plc a' d' o' (i + 1) r) = (match stepS a d' o c.toNat with | none => i | some (a', d', o') => plc a' d' o' (i + 1) r)
    apply key
    rcases ha with rfl | rfl | rfl | rfl | rfl
    · unfold stepS factS
      simp only [show ¬ (6 : Int) < 6 by omega, if_false]
      cases h1 : ((c.toNat : Int) == 32 || (c.toNat : Int) == 45) <;> cases h2 : ((c.toNat : Int) == 40) <;> cases h3 : digB c.toNat <;> cases h4 : selB c.toNat <;> cases h5 : oldB c.toNat <;> simp [simD]
    · unfold stepS factS
      simp only [show ¬ (8 : Int) < 6 by omega, if_false]
      cases h3 : digB c.toNat <;> simp [simD]
    · unfold stepS factS
      simp only [show ¬ (9 : Int) < 6 by omega, if_false]
      cases h3 : digB c.toNat <;> simp [simD]
    · unfold stepS onwS
      simp only [show ¬ (10 : Int) < 6 by omega, if_false]
      cases h1 : ((c.toNat : Int) == 32) <;> cases h3 : digB c.toNat <;> cases h4 : opB c.toNat <;> cases h5 : ((c.toNat : Int) == 59 && o == 0) <;> cases h7 : ((c.toNat : Int) == 41 && decide (0 < o)) <;> simp [simD]
    · unfold stepS onwS
      simp only [show ¬ (11 : Int) < 6 by omega, if_false]
      cases h1 : ((c.toNat : Int) == 32) <;> cases h4 : opB c.toNat <;> cases h5 : ((c.toNat : Int) == 59 && o == 0) <;> cases h7 : ((c.toNat : Int) == 41 && decide (0 < o)) <;> simp [simD]

theorem stepS_lt {a d o c : Int} (h : a < 6) : stepS a d o c = daysS a d o c := by unfold stepS; rw [if_pos h]
theorem stepS6 (d o c : Int) : stepS 6 d o c = factS 6 d o c := rfl
theorem stepS8 (d o c : Int) : stepS 8 d o c = factS 8 d o c := rfl
theorem stepS9 (d o c : Int) : stepS 9 d o c = factS 9 d o c := rfl
theorem stepS7 (d o c : Int) : stepS 7 d o c = onwS 7 d o c := rfl
theorem stepS10 (d o c : Int) : stepS 10 d o c = onwS 10 d o c := rfl
theorem stepS11 (d o c : Int) : stepS 11 d o c = onwS 11 d o c := rfl

/-- Blanks change nothing where the spot is between two things. -/
theorem plc_skip (a : Int) (ha : a = 0 ∨ a = 2 ∨ a = 3 ∨ a = 5 ∨ a = 6 ∨ a = 11) (x : List UInt8) (hx : Blanks x) : ∀ d o i r, plc a d o i (x ++ r) = plc a d o (i + x.length) r := by
  induction x with
  | nil => intro d o i r; simp
  | cons c t ih =>
    intro d o i r
    have hc : (c.toNat : Int) = 32 := by have := hx c (by simp); omega
    have hst : stepS a d o c.toNat = some (a, d, o) := by
      rw [hc]
      rcases ha with rfl | rfl | rfl | rfl | rfl | rfl <;> rfl
    rw [List.cons_append, plc_step hst, ih (fun y hy => hx y (by simp [hy]))]
    congr 1
    simp; omega
/-- Behind a complete operand a blank ends it. -/
theorem plc_skip' (a : Int) (ha : a = 7 ∨ a = 10 ∨ a = 11) (x : List UInt8) (hx : Blanks x) (hn : x ≠ []) (d o i : Int) (r : List UInt8) : plc a d o i (x ++ r) = plc 11 0 o (i + x.length) r := by
  match x, hn with
  | c :: t, _ =>
    have hc : (c.toNat : Int) = 32 := by have := hx c (by simp); omega
    have hst : stepS a d o c.toNat = some (11, d, o) := by
      rw [hc]
      rcases ha with rfl | rfl | rfl
      · rw [stepS7]; unfold onwS; simp [digB]
      · rw [stepS10]; unfold onwS; simp
      · rw [stepS11]; unfold onwS; simp
    rw [List.cons_append, plc_step hst, plc_d _ 11 d 0 _ _ (by simp), plc_skip 11 (by simp) t (fun y hy => hx y (by simp [hy]))]
    congr 1
    simp; omega
/-- A number that cannot go on is an operand that is complete. -/
theorem plc_num_end (m o i : Int) (l : List UInt8) (h : 18 ≤ m ∨ digB (hd l) = false) : plc 7 m o i l = plc 11 0 o i l := by
  cases l with
  | nil => rfl
  | cons c r =>
    rw [plc_d (c :: r) 11 0 m _ _ (by simp)]
    have : stepS 7 m o c.toNat = stepS 11 m o c.toNat := by
      rw [stepS7, stepS11]
      unfold onwS
      rcases h with h | h
      · simp [show ¬ m < 18 by omega]
      · simp only [hd] at h
        simp [h]
    simp only [plc, this]
theorem plc_acc_end (d o i : Int) (l : List UInt8) (h : digB (hd l) = false) : plc 10 d o i l = plc 11 0 o i l := by
  cases l with
  | nil => rfl
  | cons c r =>
    rw [plc_d (c :: r) 11 0 d _ _ (by simp)]
    have : stepS 10 d o c.toNat = stepS 11 d o c.toNat := by
      rw [stepS10, stepS11]
      unfold onwS
      simp only [hd] at h
      simp [h]
    simp only [plc, this]
/-- Digits of a number. -/
theorem plc_num (ds : List UInt8) (hd : ∀ c ∈ ds, digB c.toNat = true) : ∀ (m o i : Int) (r : List UInt8), 0 ≤ m → m + ds.length ≤ 18 → plc 7 m o i (ds ++ r) = plc 7 (m + ds.length) o (i + ds.length) r := by
  induction ds with
  | nil => intro m o i r _ _; simp
  | cons c t ih =>
    intro m o i r hm hl
    simp only [List.length_cons] at hl
    have hst : stepS 7 m o c.toNat = some (7, m + 1, o) := by
      rw [stepS7]; unfold onwS; simp [hd c (by simp), show m < 18 by omega]
    rw [List.cons_append, plc_step hst, ih (fun y hy => hd y (by simp [hy])) _ _ _ _ (by omega) (by omega)]
    simp only [List.length_cons]
    congr 1 <;> omega
theorem dig_c {c : Int} (h : digB c = true) : ¬ c = 32 ∧ ¬ c = 45 ∧ ¬ c = 40 := by simp [digB] at h; omega
theorem plc_number (ds : List UInt8) (hdg : ∀ c ∈ ds, digB c.toNat = true) (h1 : 1 ≤ ds.length) (h18 : ds.length ≤ 18) (r : List UInt8) (he : ds.length = 18 ∨ digB (hd r) = false) (d o i : Int) : plc 6 d o i (ds ++ r) = plc 11 0 o (i + ds.length) r := by
  match ds, h1 with
  | c :: t, _ =>
    have hc := hdg c (by simp)
    have hn := dig_c hc
    have hst : stepS 6 d o c.toNat = some (7, 1, o) := by
      rw [stepS6]; unfold factS; simp [hc, hn.1, hn.2.1, hn.2.2]
    simp only [List.length_cons] at h18 he ⊢
    rw [List.cons_append, plc_step hst, plc_num t (fun y hy => hdg y (by simp [hy])) _ _ _ _ (by omega) (by omega), plc_num_end _ _ _ _ (by rcases he with h | h; left; omega; right; exact h)]
    congr 1
    omega

end Db
namespace Db

theorem sel_c {c : Int} (h : selB c = true) : ¬ c = 32 ∧ ¬ c = 45 ∧ ¬ c = 40 ∧ digB c = false := by
  simp [selB] at h; rcases h with (rfl | rfl) | rfl <;> simp [digB]
theorem old_c {c : Int} (h : oldB c = true) : ¬ c = 32 ∧ ¬ c = 45 ∧ ¬ c = 40 ∧ digB c = false ∧ selB c = false := by
  simp [oldB] at h; rcases h with rfl | rfl <;> simp [digB, selB]
theorem op_c {c : Int} (h : opB c = true) : ¬ c = 32 ∧ ¬ c = 40 ∧ ¬ c = 41 ∧ ¬ c = 59 ∧ digB c = false ∧ selB c = false ∧ oldB c = false := by
  simp [opB] at h; rcases h with ((rfl | rfl) | rfl) | rfl <;> simp [digB, selB, oldB]
theorem plc_sel1 {c : UInt8} (h : selB c.toNat = true) (d o i : Int) (r : List UInt8) : plc 6 d o i (c :: r) = plc 8 d o (i + 1) r := by
  have hn := sel_c h
  exact plc_step (by rw [stepS6]; unfold factS; simp [h, hn.1, hn.2.1, hn.2.2.1, hn.2.2.2])
theorem plc_old1 {c : UInt8} (h : oldB c.toNat = true) (d o i : Int) (r : List UInt8) : plc 6 d o i (c :: r) = plc 9 d o (i + 1) r := by
  have hn := old_c h
  exact plc_step (by rw [stepS6]; unfold factS; simp [h, hn.1, hn.2.1, hn.2.2.1, hn.2.2.2.1, hn.2.2.2.2])
theorem plc_sel (ds : List UInt8) (hdg : ∀ c ∈ ds, digB c.toNat = true) (h1 : 1 ≤ ds.length) (h2 : ds.length ≤ 2) (r : List UInt8) (he : ds.length = 2 ∨ digB (hd r) = false) (d o i : Int) : plc 8 d o i (ds ++ r) = plc 11 0 o (i + ds.length) r := by
  have s8 : ∀ x : UInt8, digB x.toNat = true → ∀ d, stepS 8 d o x.toNat = some (10, d, o) := fun x hx d => by rw [stepS8]; unfold factS; simp [hx]
  have s10 : ∀ x : UInt8, digB x.toNat = true → ∀ d, stepS 10 d o x.toNat = some (11, d, o) := fun x hx d => by rw [stepS10]; unfold onwS; simp [hx]
  match ds, h1, h2 with
  | [x], _, _ =>
    rw [List.cons_append, plc_step (s8 x (hdg x (by simp)) d)]
    simp only [List.length_cons, List.length_nil, List.nil_append] at he ⊢
    rw [plc_acc_end _ _ _ _ (by rcases he with he | he; omega; exact he)]
    rfl
  | [x, y], _, _ =>
    rw [List.cons_append, plc_step (s8 x (hdg x (by simp)) d), List.cons_append, plc_step (s10 y (hdg y (by simp)) d), plc_d _ 11 d 0 _ _ (by simp)]
    simp only [List.length_cons, List.length_nil, List.nil_append]
    congr 1
    omega
  | _ :: _ :: _ :: _, _, h2 => simp at h2
theorem plc_old (x : UInt8) (hx : digB x.toNat = true) (r : List UInt8) (d o i : Int) : plc 9 d o i (x :: r) = plc 11 0 o (i + 1) r := by
  rw [plc_step (show stepS 9 d o x.toNat = some (11, d, o) by rw [stepS9]; unfold factS; simp [hx]), plc_d _ 11 d 0 _ _ (by simp)]
theorem plc_fail8 (l : List UInt8) (h : digB (hd l) = false) (d o i : Int) : plc 8 d o i l = i := by
  cases l with
  | nil => rfl
  | cons c r => exact plc_stop (by rw [stepS8]; unfold factS; simp only [hd] at h; simp [h])
theorem plc_fail9 (l : List UInt8) (h : digB (hd l) = false) (d o i : Int) : plc 9 d o i l = i := by
  cases l with
  | nil => rfl
  | cons c r => exact plc_stop (by rw [stepS9]; unfold factS; simp only [hd] at h; simp [h])
theorem plc_fail6 (l : List UInt8) (h1 : ¬ hd l = 32) (h2 : ¬ hd l = 45) (h3 : ¬ hd l = 40) (h4 : digB (hd l) = false) (h5 : selB (hd l) = false) (h6 : oldB (hd l) = false) (d o i : Int) : plc 6 d o i l = i := by
  cases l with
  | nil => rfl
  | cons c r => exact plc_stop (by rw [stepS6]; unfold factS; simp only [hd] at *; simp [*])
theorem plc_neg {c : UInt8} (h : (c.toNat : Int) = 45) (d o i : Int) (r : List UInt8) : plc 6 d o i (c :: r) = plc 6 d o (i + 1) r :=
  plc_step (by rw [stepS6]; unfold factS; simp [h])
theorem plc_par {c : UInt8} (h : (c.toNat : Int) = 40) (d o i : Int) (r : List UInt8) : plc 6 d o i (c :: r) = plc 6 d (o + 1) (i + 1) r :=
  plc_step (by rw [stepS6]; unfold factS; simp [h])
theorem plc_op {c : UInt8} (h : opB c.toNat = true) (d o i : Int) (r : List UInt8) : plc 11 d o i (c :: r) = plc 6 d o (i + 1) r := by
  have hn := op_c h
  exact plc_step (by rw [stepS11]; unfold onwS; simp [h, hn.1])
theorem plc_shut {c : UInt8} (h : (c.toNat : Int) = 41) (d o i : Int) (ho : 0 ≤ o) (r : List UInt8) : plc 11 d (o + 1) i (c :: r) = plc 11 d o (i + 1) r := by
  have e : stepS 11 d (o + 1) c.toNat = some (11, d, o) := by
    rw [stepS11, h]; unfold onwS; simp [opB, show 0 < o + 1 by omega]
  exact plc_step e
theorem plc_row {c : UInt8} (h : (c.toNat : Int) = 59) (d i : Int) (r : List UInt8) : plc 11 d 0 i (c :: r) = plc 6 d 0 (i + 1) r :=
  plc_step (by rw [stepS11, h]; unfold onwS; simp [opB])
/-- Within brackets: nothing but ) or an operation goes on. -/
theorem plc_fail11 (l : List UInt8) (h1 : ¬ hd l = 32) (h2 : opB (hd l) = false) (h3 : ¬ hd l = 41) (d o i : Int) (ho : 0 ≤ o) : plc 11 d (o + 1) i l = i := by
  cases l with
  | nil => simp [plc]; omega
  | cons c r =>
    refine plc_stop ?_
    rw [stepS11]; unfold onwS; simp only [hd] at *
    simp [h1, h2, h3, show ¬ o + 1 = 0 by omega]
/-- Outside of them: nothing but ; or an operation goes on. -/
theorem plc_fail0 (l : List UInt8) (hn : l ≠ []) (h1 : ¬ hd l = 32) (h2 : opB (hd l) = false) (h3 : ¬ hd l = 59) (d i : Int) : plc 11 d 0 i l = i := by
  cases l with
  | nil => exact absurd rfl hn
  | cons c r =>
    refine plc_stop ?_
    rw [stepS11]; unfold onwS; simp only [hd] at *
    simp [h1, h2, h3]

end Db
namespace Db

/-- A sign behind which nothing is an operation between two operands. -/
def stt (p : Int) : Prop := digB p = false ∧ ¬ p = 41
def lst (e : List UInt8) : Int := match e.getLast? with | some c => c.toNat | none => -1
def upd (a b : Int) (e : List UInt8) (at_ i : Int) : Int := if fin e a b < 0 then at_ else i + fin e a b

structure ExpS (e : List UInt8) (ps : List Pt) : Prop where
  wf : ∃ n, Wf n e ps
  pos : 0 < e.length
  ends : digB (lst e) = true ∨ lst e = 41
  scan : ∀ (a b p k at_ i : Int) (r : List UInt8), 0 ≤ k → stt p → finGo a b p k at_ i (e ++ r) = finGo a b (lst e) k (if k = 0 then upd a b e at_ i else at_) (i + e.length) r
  chars : ∀ c ∈ e, ¬ c.toNat = 32 ∧ ¬ c.toNat = 44 ∧ ¬ c.toNat = 59 ∧ ¬ c.toNat = 124
  old : ∀ r, oldDig r → oldDig (e ++ r)
  rch : ∀ row r, rch row (e ++ r) = (nameB row ps || rch row r)
  sel : ∀ (q : Int → Bool) r, digB (hd r) = false → strg q (e ++ r) = (selq q ps || strg q r)
  num : ∀ p ∈ ps, 0 ≤ p.2

theorem Wf_mono {n : Nat} : ∀ {e : List UInt8} {ps : List Pt}, Wf n e ps → Wf (n + 1) e ps := by
  induction n with
  | zero => intro e ps h; exact absurd h (by simp [Wf])
  | succ n ih =>
    intro e ps h
    rcases h with h | ⟨h1, h2⟩ | ⟨h1, p, h2, h3⟩ | ⟨h1, p, q, h2, h3, h4⟩
    · exact .inl h
    · exact .inr (.inl ⟨h1, ih h2⟩)
    · exact .inr (.inr (.inl ⟨h1, p, ih h2, h3⟩))
    · exact .inr (.inr (.inr ⟨h1, p, q, ih h2, ih h3, h4⟩))
theorem Wf_add {n : Nat} (m : Nat) {e : List UInt8} {ps : List Pt} (h : Wf n e ps) : Wf (n + m) e ps := by
  induction m with
  | zero => exact h
  | succ m ih => exact Wf_mono ih
theorem Wf_le {n m : Nat} (hm : n ≤ m) {e : List UInt8} {ps : List Pt} (h : Wf n e ps) : Wf m e ps := by
  obtain ⟨k, rfl⟩ := Nat.le.dest hm
  exact Wf_add k h

theorem finGo_ge (a b : Int) (l : List UInt8) : ∀ p k at_ i : Int, 0 ≤ i → -1 ≤ at_ → -1 ≤ finGo a b p k at_ i l := by
  induction l with
  | nil => intro p k at_ i _ h; exact h
  | cons c r ih =>
    intro p k at_ i hi h
    exact ih _ _ _ _ (by omega) (by unfold hit; split <;> omega)
theorem fin_ge (l : List UInt8) (a b : Int) : -1 ≤ fin l a b := finGo_ge a b l _ _ _ _ (by omega) (by omega)
theorem stt_start : stt (-1) := ⟨by decide, by decide⟩
/-- The last operation of a whole text, by its scan. -/
theorem ExpS.fin_of {e : List UInt8} {ps : List Pt} (h : ExpS e ps) (a b p at_ i : Int) (hp : stt p) : finGo a b p 0 at_ i e = upd a b e at_ i := by
  have := h.scan a b p 0 at_ i [] (by omega) hp
  simpa [finGo] using this

theorem lst_append (x : List UInt8) (c : UInt8) (y : List UInt8) (hy : 0 < y.length) : lst (x ++ c :: y) = lst y := by
  unfold lst
  rw [List.getLast?_append, List.getLast?_cons]
  cases h : y.getLast? with
  | none => simp at h; subst h; simp at hy
  | some z => simp
theorem lst_cons (c : UInt8) (y : List UInt8) (hy : 0 < y.length) : lst (c :: y) = lst y := lst_append [] c y hy
theorem lst_snoc (x : List UInt8) (c : UInt8) : lst (x ++ [c]) = c.toNat := by simp [lst]

theorem fin_join {l r : List UInt8} {p q : List Pt} (hl : ExpS l p) (hr : ExpS r q) (o : UInt8) (ho : opB o.toNat = true) (a b : Int) :
    fin (l ++ o :: r) a b = if 0 ≤ fin r a b then (l.length : Int) + 1 + fin r a b else if ((o.toNat : Int) == a || (o.toNat : Int) == b) then (l.length : Int) else fin l a b := by
  have hc := op_c ho
  have hdep : dep 0 (o.toNat : Int) = 0 := by simp [dep, hc.2.1, hc.2.2.1]
  have hbin : binB (lst l) (o.toNat : Int) = true := by
    unfold binB; rw [ho]
    rcases hl.ends with h | h <;> simp [h]
  unfold fin
  rw [hl.scan a b (-1) 0 (-1) 0 (o :: r) (by omega) stt_start]
  simp only [if_true, finGo, hdep]
  rw [hr.fin_of a b _ _ _ ⟨hc.2.2.2.2.1, hc.2.2.1⟩]
  have g := fin_ge r a b
  have g2 := fin_ge l a b
  unfold upd hit
  rw [hbin]
  have e1 : fin l a b = finGo a b (-1) 0 (-1) 0 l := rfl
  have e2 : fin r a b = finGo a b (-1) 0 (-1) 0 r := rfl
  rw [← e1, ← e2]
  by_cases h1 : fin r a b < 0
  · rw [if_pos h1, if_neg (show ¬ 0 ≤ fin r a b by omega)]
    cases h2 : ((o.toNat : Int) == a || (o.toNat : Int) == b)
    · simp only [Bool.and_false, Bool.false_eq_true, if_false]
      split <;> omega
    · simp
  · rw [if_neg h1, if_pos (show 0 ≤ fin r a b by omega)]
    omega

/-- Two expressions with an operation between them: all but how they are cut. -/
theorem scan_join {l r : List UInt8} {p q : List Pt} (hl : ExpS l p) (hr : ExpS r q) (o : UInt8) (ho : opB o.toNat = true)
    (a b p0 k at_ i : Int) (rest : List UInt8) (hk : 0 ≤ k) (hp : stt p0) :
    finGo a b p0 k at_ i ((l ++ o :: r) ++ rest) = finGo a b (lst (l ++ o :: r)) k (if k = 0 then upd a b (l ++ o :: r) at_ i else at_) (i + (l ++ o :: r).length) rest := by
  have hc := op_c ho
  have hdep : dep k (o.toNat : Int) = k := by simp [dep, hc.2.1, hc.2.2.1]
  have hbin : binB (lst l) (o.toNat : Int) = true := by
    unfold binB; rw [ho]
    rcases hl.ends with h | h <;> simp [h]
  have hj := fin_join hl hr o ho a b
  have g := fin_ge r a b
  have g2 := fin_ge l a b
  rw [List.append_assoc, hl.scan a b p0 k at_ i _ hk hp, List.cons_append]
  simp only [finGo, hdep]
  rw [hr.scan a b _ k _ _ rest hk ⟨hc.2.2.2.2.1, hc.2.2.1⟩, lst_append l o r hr.pos]
  have hlen : i + (l.length : Int) + 1 + (r.length : Int) = i + ((l ++ o :: r).length : Int) := by simp; omega
  rw [hlen]
  congr 1
  by_cases h0 : k = 0
  · subst h0
    simp only [if_true]
    unfold hit
    rw [hbin]
    unfold upd
    rw [hj]
    by_cases h1 : fin r a b < 0
    · rw [if_pos h1, if_neg (show ¬ 0 ≤ fin r a b by omega)]
      cases h2 : ((o.toNat : Int) == a || (o.toNat : Int) == b)
      · simp
      · simp; omega
    · rw [if_neg h1, if_pos (show 0 ≤ fin r a b by omega), if_neg (by omega)]
      omega
  · have hk0 : (k == 0) = false := by simpa using h0
    simp [h0, hit, hk0]

end Db
namespace Db

def TrmS (e : List UInt8) (ps : List Pt) : Prop := ExpS e ps ∧ fin e 43 45 < 0
def FacS (e : List UInt8) (ps : List Pt) : Prop := ExpS e ps ∧ fin e 43 45 < 0 ∧ fin e 42 47 < 0
theorem FacS.trm {e : List UInt8} {ps : List Pt} (h : FacS e ps) : TrmS e ps := ⟨h.1, h.2.1⟩

theorem cut_join (l : List UInt8) (o : UInt8) (r : List UInt8) (hl : 0 < l.length) (h : cutAt (l ++ o :: r) = (l.length : Int)) : cut (l ++ o :: r) = ((o.toNat : Int), l, r) := by
  unfold cut
  rw [if_pos (by rw [h]; omega), h]
  simp only [Int.toNat_natCast]
  refine Prod.ext ?_ (Prod.ext ?_ ?_)
  · simp [List.getD]
  · simp
  · simp [List.drop_append]
theorem nameB_append (row : Int) (p q : List Pt) : nameB row (p ++ q) = (nameB row p || nameB row q) := by simp [nameB]
theorem nameB_op (row : Int) (o : Int) (h : oldB o = false) : nameB row [(o, 0)] = false := by simp [nameB, h]

theorem rch_cons_not {row : Int} {c : UInt8} (r : List UInt8) (h : oldB c.toNat = false) : rch row (c :: r) = rch row r := by
  simp [rch, h]
theorem oldDig_cons_not {c : UInt8} {r : List UInt8} (h : oldB c.toNat = false) (hr : oldDig r) : oldDig (c :: r) := ⟨fun hc => (by rw [h] at hc; cases hc), hr⟩

/-- An operation between two. -/
theorem join_shape {l r : List UInt8} {p q : List Pt} (hl : ExpS l p) (hr : ExpS r q) (o : UInt8) (ho : opB o.toNat = true) (hcut : cutAt (l ++ o :: r) = (l.length : Int)) :
    ExpS (l ++ o :: r) (p ++ q ++ [((o.toNat : Int), 0)]) := by
  have hc := op_c ho
  obtain ⟨n1, h1⟩ := hl.wf
  obtain ⟨n2, h2⟩ := hr.wf
  refine ⟨⟨n1 + n2 + 1, ?_⟩, ?_, ?_, ?_, ?_, ?_, ?_, ?_, ?_⟩
  · have e := cut_join l o r hl.pos hcut
    refine .inr (.inr (.inr ⟨by rw [e]; exact ho, p, q, ?_, ?_, by rw [e]⟩))
    · rw [e]; exact Wf_le (by omega) h1
    · rw [e]; exact Wf_le (by omega) h2
  · simp; omega
  · rw [lst_append l o r hr.pos]; exact hr.ends
  · intro a b p0 k at_ i rest hk hp
    exact scan_join hl hr o ho a b p0 k at_ i rest hk hp
  · intro c hcm
    rw [List.mem_append, List.mem_cons] at hcm
    rcases hcm with h | rfl | h
    · exact hl.chars c h
    · simp [opB] at ho; omega
    · exact hr.chars c h
  · intro rest hrest
    rw [List.append_assoc, List.cons_append]
    exact hl.old _ (oldDig_cons_not hc.2.2.2.2.2.2 (hr.old _ hrest))
  · intro row rest
    rw [List.append_assoc, List.cons_append, hl.rch, rch_cons_not _ hc.2.2.2.2.2.2, hr.rch, nameB_append, nameB_append, nameB_op _ _ hc.2.2.2.2.2.2]
    simp [Bool.or_assoc]
  · intro q rest hrest
    rw [List.append_assoc, List.cons_append, hl.sel _ _ (by simp only [hd]; exact hc.2.2.2.2.1), strg_cons_not _ hc.2.2.2.2.2.1, hr.sel _ _ hrest, selq_append, selq_append, selq_op _ _ hc.2.2.2.2.2.1]
    simp [Bool.or_assoc]
  · intro x hx
    simp at hx
    rcases hx with h | h | rfl
    · exact hl.num x h
    · exact hr.num x h
    · simp
theorem ExpS_add {l r : List UInt8} {p q : List Pt} (hl : ExpS l p) (hr : TrmS r q) (o : UInt8) (ho : (o.toNat : Int) = 43 ∨ (o.toNat : Int) = 45) : ExpS (l ++ o :: r) (p ++ q ++ [((o.toNat : Int), 0)]) := by
  have hop : opB o.toNat = true := by rcases ho with h | h <;> rw [h] <;> rfl
  refine join_shape hl hr.1 o hop ?_
  have hj := fin_join hl hr.1 o hop 43 45
  rw [if_neg (by have := hr.2; omega), if_pos (by rcases ho with h | h <;> rw [h] <;> rfl)] at hj
  unfold cutAt
  rw [hj, if_neg (by omega)]
theorem TrmS_mul {l r : List UInt8} {p q : List Pt} (hl : TrmS l p) (hr : FacS r q) (o : UInt8) (ho : (o.toNat : Int) = 42 ∨ (o.toNat : Int) = 47) : TrmS (l ++ o :: r) (p ++ q ++ [((o.toNat : Int), 0)]) := by
  have hop : opB o.toNat = true := by rcases ho with h | h <;> rw [h] <;> rfl
  have hj1 := fin_join hl.1 hr.1 o hop 43 45
  rw [if_neg (by have := hr.2.1; omega), if_neg (by rcases ho with h | h <;> rw [h] <;> decide)] at hj1
  have hj2 := fin_join hl.1 hr.1 o hop 42 47
  rw [if_neg (by have := hr.2.2; omega), if_pos (by rcases ho with h | h <;> rw [h] <;> rfl)] at hj2
  refine ⟨join_shape hl.1 hr.1 o hop ?_, by rw [hj1]; exact hl.2⟩
  unfold cutAt
  rw [hj1, hj2, if_pos hl.2]

/-- A - ahead. -/
theorem neg_fin {e : List UInt8} {ps : List Pt} (he : ExpS e ps) (c : UInt8) (hc : (c.toNat : Int) = 45) (a b p k at_ i : Int) (r : List UInt8) (hk : 0 ≤ k) (hp : stt p) :
    finGo a b p k at_ i (c :: e ++ r) = finGo a b (lst e) k (if k = 0 then upd a b e at_ (i + 1) else at_) (i + 1 + e.length) r := by
  have h1 : dep k (c.toNat : Int) = k := by rw [hc]; simp [dep]
  have h2 : hit a b p k at_ i (c.toNat : Int) = at_ := by
    unfold hit binB
    rw [hp.1]
    have : (p == 41) = false := by simpa using hp.2
    simp [this]
  rw [List.cons_append]
  simp only [finGo, h1, h2]
  rw [he.scan a b _ k at_ (i + 1) r hk (by rw [hc]; exact ⟨rfl, by decide⟩)]
theorem neg_fin0 {e : List UInt8} {ps : List Pt} (he : ExpS e ps) (c : UInt8) (hc : (c.toNat : Int) = 45) (a b : Int) : fin (c :: e) a b = if fin e a b < 0 then -1 else 1 + fin e a b := by
  have := neg_fin he c hc a b (-1) 0 (-1) 0 [] (by omega) stt_start
  have e2 : finGo a b (-1) 0 (-1) 0 (c :: e ++ []) = fin (c :: e) a b := by rw [List.append_nil]; rfl
  rw [← e2, this, if_pos rfl]
  show upd a b e (-1) (0 + 1) = _
  unfold upd
  split <;> omega
theorem FacS_neg {e : List UInt8} {ps : List Pt} (h : FacS e ps) (c : UInt8) (hc : (c.toNat : Int) = 45) : FacS (c :: e) (ps ++ [(126, 0)]) := by
  have he := h.1
  have f1 := neg_fin0 he c hc 43 45
  have f2 := neg_fin0 he c hc 42 47
  rw [if_pos h.2.1] at f1
  rw [if_pos h.2.2] at f2
  obtain ⟨n, hn⟩ := he.wf
  have hpos := he.pos
  have hold : oldB c.toNat = false := by rw [hc]; rfl
  have hcut : cut (c :: e) = (126, [], e) := by
    unfold cut
    have hca : cutAt (c :: e) = -1 := by unfold cutAt; rw [f1, if_pos (by omega), f2]
    rw [hca, if_neg (by omega), if_pos ⟨by simp; omega, by simp [hc]⟩]
    rfl
  refine ⟨⟨⟨n + 1, .inr (.inr (.inl ⟨by rw [hcut], ps, by rw [hcut]; exact hn, rfl⟩))⟩, by simp, ?_, ?_, ?_, ?_, ?_, ?_, ?_⟩, by rw [f1]; omega, by rw [f2]; omega⟩
  · rw [lst_cons c e hpos]; exact he.ends
  · intro a b p k at_ i r hk hp
    rw [neg_fin he c hc a b p k at_ i r hk hp, lst_cons c e hpos]
    have hl : i + 1 + (e.length : Int) = i + ((c :: e).length : Int) := by simp; omega
    rw [hl]
    congr 1
    by_cases h0 : k = 0
    · rw [if_pos h0, if_pos h0]
      unfold upd
      rw [neg_fin0 he c hc a b]
      have g := fin_ge e a b
      by_cases h1 : fin e a b < 0
      · rw [if_pos h1, if_pos h1, if_pos (by omega)]
      · rw [if_neg h1, if_neg h1, if_neg (by omega)]; omega
    · rw [if_neg h0, if_neg h0]
  · intro x hx
    rw [List.mem_cons] at hx
    rcases hx with rfl | hx
    · omega
    · exact he.chars x hx
  · intro r hr
    rw [List.cons_append]
    exact oldDig_cons_not hold (he.old r hr)
  · intro row r
    rw [List.cons_append, rch_cons_not _ hold, he.rch, nameB_append]
    simp [nameB, oldB]
  · intro q r hr
    rw [List.cons_append, strg_cons_not _ (by rw [hc]; rfl), he.sel _ _ hr, selq_append]
    simp [selq, selB]
  · intro x hx
    simp at hx
    rcases hx with hx | rfl
    · exact he.num x hx
    · simp

/-- Brackets. -/
theorem par_fin {e : List UInt8} {ps : List Pt} (he : ExpS e ps) (c d : UInt8) (hc : (c.toNat : Int) = 40) (hd : (d.toNat : Int) = 41) (a b p k at_ i : Int) (r : List UInt8) (hk : 0 ≤ k) :
    finGo a b p k at_ i ((c :: (e ++ [d])) ++ r) = finGo a b 41 k at_ (i + ((c :: (e ++ [d])).length : Int)) r := by
  have h1 : dep k (c.toNat : Int) = k + 1 := by rw [hc]; simp [dep]
  have h2 : ∀ p q j, hit a b p q at_ j (c.toNat : Int) = at_ := by intro p q j; rw [hc]; simp [hit, binB, opB]
  have h3 : dep (k + 1) (d.toNat : Int) = k := by rw [hd]; simp [dep]
  have h4 : ∀ p q j, hit a b p q at_ j (d.toNat : Int) = at_ := by intro p q j; rw [hd]; simp [hit, binB, opB]
  rw [List.cons_append, List.append_assoc]
  simp only [finGo, h1, h2]
  rw [he.scan a b _ (k + 1) at_ (i + 1) _ (by omega) (by rw [hc]; exact ⟨rfl, by decide⟩), if_neg (by omega)]
  rw [List.cons_append, List.nil_append]
  simp only [finGo, h3, h4]
  rw [hd]
  congr 1
  simp; omega
theorem FacS_par {e : List UInt8} {ps : List Pt} (he : ExpS e ps) (c d : UInt8) (hc : (c.toNat : Int) = 40) (hd : (d.toNat : Int) = 41) : FacS (c :: (e ++ [d])) ps := by
  have f : ∀ a b, fin (c :: (e ++ [d])) a b = -1 := by
    intro a b
    have := par_fin he c d hc hd a b (-1) 0 (-1) 0 [] (by omega)
    simp only [List.append_nil, finGo] at this
    exact this
  obtain ⟨n, hn⟩ := he.wf
  have hpos := he.pos
  have hold : oldB c.toNat = false := by rw [hc]; rfl
  have hold2 : oldB d.toNat = false := by rw [hd]; rfl
  have hcut : cut (c :: (e ++ [d])) = (40, [], e) := by
    unfold cut
    have hca : cutAt (c :: (e ++ [d])) = -1 := by unfold cutAt; rw [f, if_pos (by omega), f]
    rw [hca, if_neg (by omega), if_neg (by rintro ⟨_, h⟩; simp at h; omega), if_pos ⟨by simp; omega, by simp [hc]⟩]
    simp
  have hlst : lst (c :: (e ++ [d])) = 41 := by
    rw [← hd]; exact lst_snoc (c :: e) d
  refine ⟨⟨⟨n + 1, .inr (.inl ⟨by rw [hcut], by rw [hcut]; exact hn⟩)⟩, by simp, .inr hlst, ?_, ?_, ?_, ?_, ?_, he.num⟩, by rw [f]; omega, by rw [f]; omega⟩
  · intro a b p k at_ i r hk hp
    rw [par_fin he c d hc hd a b p k at_ i r hk, hlst]
    congr 1
    unfold upd
    rw [f, if_pos (show (-1 : Int) < 0 by omega)]
    split <;> rfl
  · intro x hx
    rw [List.mem_cons, List.mem_append, List.mem_singleton] at hx
    rcases hx with rfl | hx | rfl
    · omega
    · exact he.chars x hx
    · omega
  · intro r hr
    rw [List.cons_append, List.append_assoc]
    exact oldDig_cons_not hold (he.old _ (oldDig_cons_not hold2 hr))
  · intro row r
    rw [List.cons_append, List.append_assoc, rch_cons_not _ hold, he.rch, List.cons_append, rch_cons_not _ hold2]
    rfl
  · intro q r hr
    rw [List.cons_append, List.append_assoc, strg_cons_not _ (by rw [hc]; rfl), he.sel _ _ (by show digB (d.toNat : Int) = false; rw [hd]; rfl), List.cons_append, strg_cons_not _ (by rw [hd]; rfl)]
    rfl

end Db
namespace Db

theorem valGo_pos (l : List UInt8) (h : ∀ c ∈ l, digB c.toNat = true) : ∀ n : Int, 0 ≤ n → 0 ≤ valGo n l := by
  induction l with
  | nil => intro n hn; exact hn
  | cons c r ih =>
    intro n hn
    have := h c (by simp)
    simp [digB] at this
    exact ih (fun x hx => h x (by simp [hx])) _ (by omega)
theorem val_pos (l : List UInt8) (h : ∀ c ∈ l, digB c.toNat = true) : 0 ≤ val l := valGo_pos l h 0 (by omega)

/-- A text without operations and brackets. -/
def Flat (e : List UInt8) : Prop := ∀ c ∈ e, opB c.toNat = false ∧ ¬ (c.toNat : Int) = 40 ∧ ¬ (c.toNat : Int) = 41
theorem flat_fin (a b : Int) (e : List UInt8) (h : Flat e) : ∀ (p k at_ i : Int) (r : List UInt8), finGo a b p k at_ i (e ++ r) = finGo a b (if e = [] then p else lst e) k at_ (i + e.length) r := by
  induction e with
  | nil => intro p k at_ i r; simp
  | cons c t ih =>
    intro p k at_ i r
    have hc := h c (by simp)
    have h1 : dep k (c.toNat : Int) = k := by simp [dep, hc.2.1, hc.2.2]
    have h2 : hit a b p k at_ i (c.toNat : Int) = at_ := by simp [hit, binB, hc.1]
    rw [List.cons_append]
    simp only [finGo, h1, h2]
    rw [ih (fun x hx => h x (by simp [hx]))]
    have hl : i + 1 + (t.length : Int) = i + ((c :: t).length : Int) := by simp; omega
    rw [hl]
    congr 1
    cases t with
    | nil => simp [lst]
    | cons x y => simp [lst]
theorem dig_flat {c : Int} (h : digB c = true) : opB c = false ∧ ¬ c = 40 ∧ ¬ c = 41 := by simp [digB] at h; simp [opB]; omega
theorem sel_flat {c : Int} (h : selB c = true) : opB c = false ∧ ¬ c = 40 ∧ ¬ c = 41 := by simp [selB] at h; rcases h with (rfl | rfl) | rfl <;> simp [opB]
theorem old_flat {c : Int} (h : oldB c = true) : opB c = false ∧ ¬ c = 40 ∧ ¬ c = 41 := by simp [oldB] at h; rcases h with rfl | rfl <;> simp [opB]
theorem dig_old {c : Int} (h : digB c = true) : oldB c = false := by simp [digB] at h; simp [oldB]; omega
theorem sel_old {c : Int} (h : selB c = true) : oldB c = false := by simp [selB] at h; rcases h with (rfl | rfl) | rfl <;> simp [oldB]
theorem digs_old (ds : List UInt8) (h : ∀ c ∈ ds, digB c.toNat = true) (r : List UInt8) (hr : oldDig r) : oldDig (ds ++ r) := by
  induction ds with
  | nil => exact hr
  | cons c t ih => exact oldDig_cons_not (dig_old (h c (by simp))) (ih (fun x hx => h x (by simp [hx])))
theorem digs_rch (row : Int) (ds : List UInt8) (h : ∀ c ∈ ds, digB c.toNat = true) (r : List UInt8) : rch row (ds ++ r) = rch row r := by
  induction ds with
  | nil => rfl
  | cons c t ih => rw [List.cons_append, rch_cons_not _ (dig_old (h c (by simp))), ih (fun x hx => h x (by simp [hx]))]
theorem dig_sel {c : Int} (h : digB c = true) : selB c = false := by simp [digB] at h; simp [selB]; omega
theorem digs_strg (q : Int → Bool) (ds : List UInt8) (h : ∀ c ∈ ds, digB c.toNat = true) (r : List UInt8) : strg q (ds ++ r) = strg q r := by
  induction ds with
  | nil => rfl
  | cons c t ih => rw [List.cons_append, strg_cons_not _ (dig_sel (h c (by simp))), ih (fun x hx => h x (by simp [hx]))]
theorem dg2_all (ds : List UInt8) (h : ∀ c ∈ ds, digB c.toNat = true) (h1 : 1 ≤ ds.length) (h2 : ds.length ≤ 2) (r : List UInt8) (hr : digB (hd r) = false) : dg2 (ds ++ r) = ds := by
  match ds, h1, h2 with
  | [x], _, _ =>
    have hx := h x (by simp)
    unfold dg2
    cases r with
    | nil => simp [hx]
    | cons y t => simp only [hd] at hr; simp [hx, hr]
  | [x, y], _, _ =>
    have hx := h x (by simp)
    have hy := h y (by simp)
    unfold dg2
    simp [hx, hy]
  | _ :: _ :: _ :: _, _, h2 => simp at h2
theorem lst_mem (e : List UInt8) (h : 0 < e.length) : ∃ c ∈ e, lst e = c.toNat := by
  cases hl : e.getLast? with
  | none => simp at hl; subst hl; simp at h
  | some c => exact ⟨c, List.mem_of_getLast? hl, by simp [lst, hl]⟩

/-- An operand is a factor. -/
theorem opnd_shape {e : List UInt8} {ps : List Pt} (h : Opnd e ps) : FacS e ps := by
  have hpos : 0 < e.length := by
    rcases h with ⟨h1, _⟩ | ⟨c, ds, rfl, _⟩
    · omega
    · simp
  have hflat : Flat e := by
    rcases h with ⟨_, _, hd, _⟩ | ⟨c, ds, rfl, _, hd, hs, _⟩
    · exact fun c hc => dig_flat (hd c hc)
    · intro x hx
      rw [List.mem_cons] at hx
      rcases hx with rfl | hx
      · rcases hs with ⟨hs, _⟩ | ⟨hs, _⟩
        · exact sel_flat hs
        · exact old_flat hs
      · exact dig_flat (hd x hx)
  have hfin : ∀ a b, fin e a b = -1 := by
    intro a b
    have := flat_fin a b e hflat (-1) 0 (-1) 0 []
    rw [List.append_nil] at this
    exact this
  have hlast : digB (lst e) = true := by
    rcases h with ⟨h1, _, hd, _⟩ | ⟨c, ds, rfl, h1, hd, hs, _⟩
    · obtain ⟨x, hx, he⟩ := lst_mem e hpos
      rw [he]; exact hd x hx
    · rw [lst_cons c ds (by omega)]
      obtain ⟨x, hx, he⟩ := lst_mem ds (by omega)
      rw [he]; exact hd x hx
  have hhead : ∀ c : Int, ((e.getD 0 0).toNat : Int) = c → ¬ c = 45 ∧ ¬ c = 40 := by
    intro c hc
    match e, hpos, hflat with
    | x :: t, _, hfl =>
      have hx := hfl x (by simp)
      simp at hc
      subst hc
      exact ⟨by intro h; rw [h] at hx; simp [opB] at hx, hx.2.1⟩
  have hcut : cut e = (0, [], e) := by
    unfold cut
    have hca : cutAt e = -1 := by unfold cutAt; rw [hfin, if_pos (by omega), hfin]
    rw [hca, if_neg (by omega), if_neg (fun hx => (hhead _ rfl).1 hx.2), if_neg (fun hx => (hhead _ rfl).2 hx.2)]
  refine ⟨⟨⟨1, .inl ⟨hcut, h⟩⟩, hpos, .inl hlast, ?_, ?_, ?_, ?_, ?_, ?_⟩, by rw [hfin]; omega, by rw [hfin]; omega⟩
  · intro a b p k at_ i r hk hp
    rw [flat_fin a b e hflat]
    have : ¬ e = [] := by intro h0; subst h0; simp at hpos
    rw [if_neg this]
    congr 1
    unfold upd
    rw [hfin, if_pos (show (-1 : Int) < 0 by omega)]
    split <;> rfl
  · intro c hc
    rcases h with ⟨_, _, hd, _⟩ | ⟨x, ds, rfl, _, hd, hs, _⟩
    · have := hd c hc; simp [digB] at this; omega
    · rw [List.mem_cons] at hc
      rcases hc with rfl | hc
      · rcases hs with ⟨hs, _⟩ | ⟨hs, _⟩
        · simp [selB] at hs; omega
        · simp [oldB] at hs; omega
      · have := hd c hc; simp [digB] at this; omega
  · intro r hr
    rcases h with ⟨_, _, hd, _⟩ | ⟨x, ds, rfl, h1, hd, hs, _⟩
    · exact digs_old e hd r hr
    · refine ⟨fun _ => ?_, digs_old ds hd r hr⟩
      match ds, h1, hd with
      | y :: t, _, hd => exact hd y (by simp)
  · intro row r
    rcases h with ⟨_, _, hd, rfl⟩ | ⟨x, ds, rfl, h1, hd, hs, rfl⟩
    · rw [digs_rch row e hd r]; simp [nameB, oldB]
    · rcases hs with ⟨hs, _⟩ | ⟨hs, hl⟩
      · rw [List.cons_append, rch_cons_not _ (sel_old hs), digs_rch row ds hd r]
        simp [nameB, sel_old hs]
      · obtain ⟨y, rfl⟩ := List.length_eq_one_iff.1 hl
        rw [List.cons_append, List.cons_append, List.nil_append]
        show ((oldB x.toNat && decide (row ≤ (y.toNat : Int) - 48)) || rch row (y :: r)) = _
        rw [rch_cons_not _ (dig_old (hd y (by simp)))]
        simp [nameB, val, valGo, hs]
  · intro q r hr
    rcases h with ⟨_, _, hd, rfl⟩ | ⟨x, ds, rfl, h1, hd, hs, rfl⟩
    · rw [digs_strg q e hd r]; simp [selq, selB]
    · rcases hs with ⟨hs, hl⟩ | ⟨hs, hl⟩
      · rw [List.cons_append]
        show ((selB x.toNat && q (val (dg2 (ds ++ r)))) || strg q (ds ++ r)) = _
        rw [digs_strg q ds hd r, dg2_all ds hd h1 hl r hr]
        simp [selq, hs]
      · have hns : selB (x.toNat : Int) = false := (old_c hs).2.2.2.2
        rw [List.cons_append, strg_cons_not _ hns, digs_strg q ds hd r]
        simp [selq, hns]
  · intro p hp
    rcases h with ⟨_, _, hd, rfl⟩ | ⟨x, ds, rfl, h1, hd, hs, rfl⟩
    · simp at hp; subst hp; exact val_pos e hd
    · simp at hp; subst hp; exact val_pos ds hd

/-- Reading a factor (a term, an expression) off l: l' is left, ps are its parts; or it stops ahead of l'. S: the shape of what was read; H: what is known of what is left. -/
def Got (S : List UInt8 → List Pt → Prop) (H : List UInt8 → Prop) (l : List UInt8) (ok : Bool) (l' : List UInt8) (ps : List Pt) : Prop :=
  ∃ x, l = x ++ l' ∧ (ok = true → (∀ d k i : Int, 0 ≤ k → plc 6 d k i l = plc 11 0 k (i + x.length) l') ∧ S (bare x) ps ∧ H l') ∧ (ok = false → ∀ d k i : Int, 0 ≤ k → plc 6 d k i l = i + x.length)
def Fac := Got FacS (fun _ => True)
/-- Neither a blank nor one of these operations is left. -/
def Trm := Got TrmS (fun l => ¬ hd l = 32 ∧ ¬ hd l = 42 ∧ ¬ hd l = 47)
def Exp := Got ExpS (fun l => ¬ hd l = 32 ∧ opB (hd l) = false)

theorem fac_blanks {x l l' : List UInt8} {ok : Bool} {ps : List Pt} {S : List UInt8 → List Pt → Prop} {H : List UInt8 → Prop} (hx : Blanks x) (h : Got S H l ok l' ps) : Got S H (x ++ l) ok l' ps := by
  obtain ⟨y, rfl, h1, h2⟩ := h
  refine ⟨x ++ y, by simp, fun ho => ⟨fun d k i hk => ?_, ?_, (h1 ho).2.2⟩, fun ho d k i hk => ?_⟩
  · rw [plc_skip 6 (by simp) x hx, (h1 ho).1 d k _ hk]
    congr 1
    simp; omega
  · rw [bare_append, bare_blanks hx]; exact (h1 ho).2.1
  · rw [plc_skip 6 (by simp) x hx, h2 ho d k _ hk]
    simp; omega
theorem fac_opnd {e l' : List UInt8} {ps : List Pt} (h : Opnd e ps) (he : ∀ d k i : Int, plc 6 d k i (e ++ l') = plc 11 0 k (i + e.length) l') : Fac (e ++ l') true l' ps := by
  have hs := opnd_shape h
  refine ⟨e, rfl, fun _ => ⟨fun d k i _ => he d k i, ?_, trivial⟩, fun h0 => by cases h0⟩
  have : bare e = e := by
    unfold bare; rw [List.filter_eq_self]; intro c hc
    have := (hs.1.chars c hc).1
    simpa using this
  rw [this]; exact hs
theorem bare_cons {c : UInt8} (h : ¬ c.toNat = 32) (l : List UInt8) : bare (c :: l) = c :: bare l := by
  rw [show c :: l = [c] ++ l from rfl, bare_append, bare_other h]; rfl
theorem fac_neg {c : UInt8} (hc : (c.toNat : Int) = 45) {l l' : List UInt8} {ok : Bool} {ps : List Pt} (h : Fac l ok l' ps) : Fac (c :: l) ok l' (ps ++ [(126, 0)]) := by
  obtain ⟨y, rfl, h1, h2⟩ := h
  refine ⟨c :: y, rfl, fun ho => ⟨fun d k i hk => ?_, ?_, trivial⟩, fun ho d k i hk => ?_⟩
  · rw [plc_neg hc, (h1 ho).1 d k _ hk]
    congr 1
    simp; omega
  · rw [bare_cons (by omega)]; exact FacS_neg (h1 ho).2.1 c hc
  · rw [plc_neg hc, h2 ho d k _ hk]
    simp; omega
/-- A bracket that is opened, an expression: it fails there. -/
theorem fac_par_no {c : UInt8} (hc : (c.toNat : Int) = 40) {l l' : List UInt8} {ps ps' : List Pt} (h : Exp l false l' ps) : Fac (c :: l) false l' ps' := by
  obtain ⟨y, rfl, h1, h2⟩ := h
  refine ⟨c :: y, rfl, (fun h0 => by cases h0), fun _ d k i hk => ?_⟩
  rw [plc_par hc, h2 rfl d (k + 1) _ (by omega)]
  simp; omega
theorem fac_par_open {c : UInt8} (hc : (c.toNat : Int) = 40) {l l' : List UInt8} {ps ps' : List Pt} (h : Exp l true l' ps) (h41 : ¬ hd l' = 41) : Fac (c :: l) false l' ps' := by
  obtain ⟨y, rfl, h1, h2⟩ := h
  have h3 := (h1 rfl).2.2
  refine ⟨c :: y, rfl, (fun h0 => by cases h0), fun _ d k i hk => ?_⟩
  rw [plc_par hc, (h1 rfl).1 d (k + 1) _ (by omega), plc_fail11 l' h3.1 h3.2 h41 _ _ _ hk]
  simp; omega
theorem fac_par_yes {c e : UInt8} (hc : (c.toNat : Int) = 40) (he : (e.toNat : Int) = 41) {l l' : List UInt8} {ps : List Pt} (h : Exp l true (e :: l') ps) : Fac (c :: l) true l' ps := by
  obtain ⟨y, rfl, h1, h2⟩ := h
  refine ⟨c :: (y ++ [e]), by simp, fun _ => ⟨fun d k i hk => ?_, ?_, trivial⟩, fun h0 => by cases h0⟩
  · rw [plc_par hc, (h1 rfl).1 d (k + 1) _ (by omega), plc_shut he _ _ _ hk]
    congr 1
    simp; omega
  · rw [bare_cons (by omega), bare_append, bare_other (by omega)]; exact FacS_par (h1 rfl).2.1 c e hc he
/-- From a factor to a term: blanks behind it are passed over. -/
theorem trm_fac {l x l' : List UInt8} {ps : List Pt} (h : Fac l true (x ++ l') ps) (hx : Blanks x) : Got TrmS (fun _ => True) l true l' ps := by
  obtain ⟨y, rfl, h1, h2⟩ := h
  refine ⟨y ++ x, by simp, fun _ => ⟨fun d k i hk => ?_, ?_, trivial⟩, fun h0 => by cases h0⟩
  · rw [(h1 rfl).1 d k _ hk, plc_skip 11 (by simp) x hx]
    congr 1
    simp; omega
  · rw [bare_append, bare_blanks hx, List.append_nil]; exact (h1 rfl).2.1.trm
theorem trm_no {l l' : List UInt8} {ps ps' : List Pt} {S : List UInt8 → List Pt → Prop} {H : List UInt8 → Prop} {S' : List UInt8 → List Pt → Prop} {H' : List UInt8 → Prop} (h : Got S H l false l' ps) : Got S' H' l false l' ps' := by
  obtain ⟨y, rfl, h1, h2⟩ := h
  exact ⟨y, rfl, (fun h0 => by cases h0), h2⟩
theorem trm_end {S : List UInt8 → List Pt → Prop} {H : List UInt8 → Prop} {l l' : List UInt8} {ps : List Pt} (h : Got S (fun _ => True) l true l' ps) (hh : H l') : Got S H l true l' ps := by
  obtain ⟨y, rfl, h1, h2⟩ := h
  exact ⟨y, rfl, fun _ => ⟨(h1 rfl).1, (h1 rfl).2.1, hh⟩, h2⟩
/-- A term, * or /, a factor. -/
theorem trm_mul {o : UInt8} (ho : (o.toNat : Int) = 42 ∨ (o.toNat : Int) = 47) {l r x l' : List UInt8} {p q : List Pt} (h : Got TrmS (fun _ => True) l true (o :: r) p) (hf : Fac r true (x ++ l') q) (hx : Blanks x) : Got TrmS (fun _ => True) l true l' (p ++ q ++ [((o.toNat : Int), 0)]) := by
  obtain ⟨y, rfl, h1, h2⟩ := h
  obtain ⟨z, rfl, g1, g2⟩ := hf
  have hop : opB o.toNat = true := by rcases ho with h | h <;> rw [h] <;> rfl
  refine ⟨y ++ o :: (z ++ x), by simp, fun _ => ⟨fun d k i hk => ?_, ?_, trivial⟩, fun h0 => by cases h0⟩
  · rw [(h1 rfl).1 d k _ hk, plc_op hop, (g1 rfl).1 _ k _ hk, plc_skip 11 (by simp) x hx]
    congr 1
    simp; omega
  · rw [bare_append, bare_cons (by omega), bare_append, bare_blanks hx, List.append_nil]; exact TrmS_mul (h1 rfl).2.1 (g1 rfl).2.1 o ho
theorem op_no {o : UInt8} (hop : opB o.toNat = true) {S : List UInt8 → List Pt → Prop} {H : List UInt8 → Prop} {S' : List UInt8 → List Pt → Prop} {H' : List UInt8 → Prop} {S2 : List UInt8 → List Pt → Prop} {H2 : List UInt8 → Prop} {l r l' : List UInt8} {p q p' : List Pt} (h : Got S H l true (o :: r) p) (hf : Got S' H' r false l' q) : Got S2 H2 l false l' p' := by
  obtain ⟨y, rfl, h1, h2⟩ := h
  obtain ⟨z, rfl, g1, g2⟩ := hf
  refine ⟨y ++ o :: z, by simp, (fun h0 => by cases h0), fun _ d k i hk => ?_⟩
  rw [(h1 rfl).1 d k _ hk, plc_op hop, g2 rfl _ k _ hk]
  simp; omega
/-- An expression, + or -, a term. -/
theorem exp_add {o : UInt8} (ho : (o.toNat : Int) = 43 ∨ (o.toNat : Int) = 45) {l r l' : List UInt8} {p q : List Pt} (h : Got ExpS (fun _ => True) l true (o :: r) p) (hf : Trm r true l' q) : Got ExpS (fun l => ¬ hd l = 32 ∧ ¬ hd l = 42 ∧ ¬ hd l = 47) l true l' (p ++ q ++ [((o.toNat : Int), 0)]) := by
  obtain ⟨y, rfl, h1, h2⟩ := h
  obtain ⟨z, rfl, g1, g2⟩ := hf
  have hop : opB o.toNat = true := by rcases ho with h | h <;> rw [h] <;> rfl
  refine ⟨y ++ o :: z, by simp, fun _ => ⟨fun d k i hk => ?_, ?_, (g1 rfl).2.2⟩, fun h0 => by cases h0⟩
  · rw [(h1 rfl).1 d k _ hk, plc_op hop, (g1 rfl).1 _ k _ hk]
    congr 1
    simp; omega
  · rw [bare_append, bare_cons (by omega)]; exact ExpS_add (h1 rfl).2.1 (g1 rfl).2.1 o ho
theorem exp_trm {l l' : List UInt8} {ps : List Pt} (h : Trm l true l' ps) : Got ExpS (fun l => ¬ hd l = 32 ∧ ¬ hd l = 42 ∧ ¬ hd l = 47) l true l' ps := by
  obtain ⟨y, rfl, h1, h2⟩ := h
  exact ⟨y, rfl, fun _ => ⟨(h1 rfl).1, (h1 rfl).2.1.1, (h1 rfl).2.2⟩, h2⟩
theorem got_any {S : List UInt8 → List Pt → Prop} {H : List UInt8 → Prop} {l l' : List UInt8} {ok : Bool} {ps : List Pt} (h : Got S H l ok l' ps) : Got S (fun _ => True) l ok l' ps := by
  obtain ⟨y, rfl, h1, h2⟩ := h
  exact ⟨y, rfl, fun ho => ⟨(h1 ho).1, (h1 ho).2.1, trivial⟩, h2⟩

end Db
namespace Go.Proofs.YtdchbenfccofpabGreatDoor
open Go.RowKit Db

theorem retI {k : IntKind} {a b : Int} (h : a = b) : Ending.returned (.int k a) = .returned (.int k b) := by rw [h]
/-- The cells of parts. -/
def cellsP (ps : List Pt) : List Value := ps.flatMap fun p => [.int .u8 p.1, .int .i64 p.2]
theorem cellsP_append (p q : List Pt) : cellsP (p ++ q) = cellsP p ++ cellsP q := by simp [cellsP]
theorem cellsP_length (p : List Pt) : (cellsP p).length = p.length * 2 := by
  induction p with
  | nil => rfl
  | cons x t ih => simp [cellsP] at ih ⊢; omega

/-- The reader lies in block b: its text, its place, its parts. -/
structure Rd (w : World) (b : Nat) (t : ByteArray) (at_ : Nat) (v : Value) (ps : List Pt) : Prop where
  blk : Blk w b #[.string t, .int .i64 at_, v] 140
  own : w.ownsRow (b + 1) 146 2 v ps.length (cellsP ps)
  le : at_ ≤ t.size
  cnt : ps.length ≤ at_
  sz : t.size ≤ 200

/-- The blocks that the reader's calls may write. -/
def XR (b : Nat) (v : Value) (k : Nat) : Prop := k = b ∨ some k = v.ownBlock
/-- From w to w' the reader's calls have been at work. -/
structure RdR (b : Nat) (t : ByteArray) (v : Value) (w w' : World) (at_ : Nat) (v' : Value) (ps : List Pt) : Prop where
  rd : Rd w' b t at_ v' ps
  frm : Frm w.heap.size (XR b v) w w'
  own : v'.ownBlock = v.ownBlock ∨ ∀ k, v'.ownBlock = some k → w.heap.size ≤ k

theorem RdR.refl {b : Nat} {t : ByteArray} {v : Value} {w : World} {at_ : Nat} {ps : List Pt} (h : Rd w b t at_ v ps) : RdR b t v w w at_ v ps := ⟨h, Frm.refl _ _ _, .inl rfl⟩
theorem RdR.trans {b : Nat} {t : ByteArray} {v v1 v2 : Value} {w w1 w2 : World} {a1 a2 : Nat} {p1 p2 : List Pt} (h : RdR b t v w w1 a1 v1 p1) (k : RdR b t v1 w1 w2 a2 v2 p2) : RdR b t v w w2 a2 v2 p2 := by
  refine ⟨k.rd, h.frm.trans (k.frm.mono h.frm.size ?_), ?_⟩
  · intro j hj hx
    rcases hx with hx | hx
    · exact .inl hx
    · rcases h.own with e | e
      · exact .inr (by rw [← e]; exact hx)
      · have := e j hx.symm; omega
  · rcases k.own with e | e
    · rcases h.own with f | f
      · exact .inl (e.trans f)
      · exact .inr (fun j hj => f j (e ▸ hj))
    · exact .inr (fun j hj => Nat.le_trans h.frm.size (e j hj))
/-- The reader moved its place; nothing else is turned. -/
theorem Rd.move {b : Nat} {t : ByteArray} {v : Value} {w w1 : World} {a a' : Nat} {ps : List Pt} (h : Rd w b t a v ps) (hb : Below w.heap.size w w1) (ha : a' ≤ t.size) (hc : ps.length ≤ a') : RdR b t v w (w1.setCell ⟨b, 1, none⟩ (.int .i64 a')) a' v ps := by
  refine ⟨⟨?_, ?_, ha, hc, h.sz⟩, ?_, .inl rfl⟩
  · have := (h.blk.kept hb).set 1 (.int .i64 a')
    simpa using this
  · exact ownsRow_setCell_below (ownsRow_below h.own hb) (by simp) _
  · exact hb.frm.setCell (.inr (.inl rfl)) _
theorem Rd.draws {b : Nat} {t : ByteArray} {v : Value} {w : World} {a : Nat} {ps : List Pt} (h : Rd w b t a v ps) (n : Nat) : RdR b t v w (w.drewN n) a v ps :=
  ⟨⟨h.blk, h.own, h.le, h.cnt, h.sz⟩, (Frm.refl _ _ _).drewN n, .inl rfl⟩
theorem RdR.draws {b : Nat} {t : ByteArray} {v v' : Value} {w w1 : World} {a : Nat} {ps : List Pt} (h : RdR b t v w w1 a v' ps) (n : Nat) : RdR b t v w (w1.drewN n) a v' ps := h.trans (h.rd.draws n)
theorem Rd.below {b : Nat} {t : ByteArray} {v : Value} {w w1 : World} {a : Nat} {ps : List Pt} (h : Rd w b t a v ps) (hb : Below w.heap.size w w1) : RdR b t v w w1 a v ps :=
  ⟨⟨h.blk.kept hb, ownsRow_below h.own hb, h.le, h.cnt, h.sz⟩, hb.frm, .inl rfl⟩
theorem RdR.move {b : Nat} {t : ByteArray} {v v' : Value} {w w1 : World} {a a' : Nat} {ps : List Pt} (h : RdR b t v w w1 a v' ps) (ha : a' ≤ t.size) (hc : ps.length ≤ a') : RdR b t v w (w1.setCell ⟨b, 1, none⟩ (.int .i64 a')) a' v' ps := h.trans (h.rd.move (Below.refl _ _) ha hc)

/-- The three cells, as the walk wants them. -/
theorem Rd.c0 {w : World} {b : Nat} {t : ByteArray} {a : Nat} {v : Value} {ps : List Pt} (h : Rd w b t a v ps) : w.cell? ⟨b, 0, none⟩ = some (.string t) := h.blk.cell 0
theorem Rd.c1 {w : World} {b : Nat} {t : ByteArray} {a : Nat} {v : Value} {ps : List Pt} (h : Rd w b t a v ps) : w.cell? ⟨b, 1, none⟩ = some (.int .i64 a) := h.blk.cell 1
theorem Rd.c2 {w : World} {b : Nat} {t : ByteArray} {a : Nat} {v : Value} {ps : List Pt} (h : Rd w b t a v ps) : w.cell? ⟨b, 2, none⟩ = some v := h.blk.cell 2
theorem Rd.z1 {w : World} {b : Nat} {t : ByteArray} {a : Nat} {v : Value} {ps : List Pt} (h : Rd w b t a v ps) : w.frozen? ⟨b, 1, none⟩ = false := h.blk.frozen 1
theorem Rd.z2 {w : World} {b : Nat} {t : ByteArray} {a : Nat} {v : Value} {ps : List Pt} (h : Rd w b t a v ps) : w.frozen? ⟨b, 2, none⟩ = false := h.blk.frozen 2

theorem blanks_snoc (t : ByteArray) (p k : Nat) (x : List UInt8) (hk : k < t.size) (h32 : t[k].toNat = 32) (h : (L t).drop p = x ++ (L t).drop k) (hx : Blanks x) : (L t).drop p = (x ++ [t[k]]) ++ (L t).drop (k + 1) ∧ Blanks (x ++ [t[k]]) := by
  refine ⟨by rw [h, L_drop t k hk]; simp, ?_⟩
  intro c hc
  simp at hc
  rcases hc with hc | rfl
  · exact hx c hc
  · exact h32
theorem hd_drop (t : ByteArray) (k : Nat) (hk : k < t.size) : hd ((L t).drop k) = (t[k].toNat : Int) := by rw [L_drop t k hk]; rfl
theorem hd_end (t : ByteArray) (k : Nat) (hk : t.size ≤ k) : hd ((L t).drop k) = 0 := by rw [L_drop_end t k hk]; rfl

set_option maxHeartbeats 1000000 in
theorem skipBlanks_any (b : Nat) (t : ByteArray) (p : Nat) (v : Value) (ps : List Pt) (w : World) (h : Rd w b t p v ps) :
    Calls Tryz.prog 130 #[.pointer (some ⟨b, 0, none⟩)] w fun e w' => e = .returned (.tuple #[]) ∧ ∃ p' x, p ≤ p' ∧ RdR b t v w w' p' v ps ∧ (L t).drop p = x ++ (L t).drop p' ∧ Blanks x ∧ ¬ hd ((L t).drop p') = 32 := by
  have H := hide h
  have hsz := h.sz
  clear h
  go_enter Tryz.func130, Tryz.ntmps130
  go_wp2_with fail
  go_loopg [] (t.size - p) (fun m wr => ∃ k x, p ≤ k ∧ k ≤ t.size ∧ m = t.size - k ∧ Hid (RdR b t v w wr k v ps) ∧ Hid ((L t).drop p = x ++ (L t).drop k) ∧ Hid (Blanks x))
  case atStart => exact ⟨p, [], Nat.le_refl _, (unhide H).le, rfl, RdR.refl (unhide H), rfl, by intro c hc; cases hc⟩
  case round =>
    obtain ⟨k, x, hpk, hk, rfl, Hr, Hx, Hb⟩ := hrel
    have c0 := (unhide Hr).rd.c0
    have c1 := (unhide Hr).rd.c1
    have z1 := (unhide Hr).rd.z1
    by_cases hlt : k < t.size
    · have d1 : decide ((k : Int) < (t.size : Int)) = true := by simp; omega
      by_cases h32 : t[k].toNat = 32
      · have e32 : ((t[k].toNat : Int) == 32) = true := by simp; omega
        have Hs := hide (blanks_snoc t p k x hlt h32 (unhide Hx) (unhide Hb))
        go_wp2_with fail
        go_quiet (fail)
        go_wp2_with fail
        go_roundg (t.size - (k + 1))
        case measure => omega
        case rel =>
          refine ⟨k + 1, _, by omega, by omega, rfl, ?_, (unhide Hs).1, (unhide Hs).2⟩
          have := ((unhide Hr).draws nq).move (a' := k + 1) (by omega) (by have := (unhide Hr).rd.cnt; omega)
          show RdR _ _ _ _ _ _ _ _
          simpa using this
      · have e32 : ((t[k].toNat : Int) == 32) = false := by simp; omega
        have Hn : Hid (¬ hd ((L t).drop k) = 32) := by show ¬ _; rw [hd_drop t k hlt]; omega
        go_wp2_with fail
        go_quiet (fail)
        go_wp2_with fail
        go_end0
        exact ⟨rfl, k, x, hpk, (unhide Hr).draws _, unhide Hx, unhide Hb, unhide Hn⟩
    · have d1 : decide ((k : Int) < (t.size : Int)) = false := by simp; omega
      have Hn : Hid (¬ hd ((L t).drop k) = 32) := by show ¬ _; rw [hd_end t k (by omega)]; omega
      go_wp2_with fail
      go_quiet (fail)
      go_wp2_with fail
      go_end0
      exact ⟨rfl, k, x, hpk, (unhide Hr).draws _, unhide Hx, unhide Hb, unhide Hn⟩

/-- What stands behind the blanks. -/
structure Skp (t : ByteArray) (p p' : Nat) (x : List UInt8) : Prop where
  le : p ≤ p'
  eq : (L t).drop p = x ++ (L t).drop p'
  bl : Blanks x
  nb : ¬ hd ((L t).drop p') = 32

set_option maxHeartbeats 1000000 in
theorem next_any (b : Nat) (t : ByteArray) (p : Nat) (v : Value) (ps : List Pt) (w : World) (h : Rd w b t p v ps) :
    Calls Tryz.prog 113 #[.pointer (some ⟨b, 0, none⟩)] w fun e w' => ∃ p' x, e = .returned (.int .u8 (hd ((L t).drop p'))) ∧ RdR b t v w w' p' v ps ∧ Skp t p p' x := by
  have H := hide h
  have hsz := h.sz
  clear h
  go_enter Tryz.func113, Tryz.ntmps113
  go_wp2_with fail
  refine (skipBlanks_any b t p v ps _ (unhide H)).mono ?_
  rintro e w1 ⟨rfl, p', x, hp, hr, hx, hb, hn⟩
  have c0 := hr.rd.c0
  have c1 := hr.rd.c1
  have Hr := hide hr
  have Hs : Hid (Skp t p p' x) := ⟨hp, hx, hb, hn⟩
  clear hr hx hb hn hp
  by_cases hlt : p' < t.size
  · have d1 : decide ((p' : Int) < (t.size : Int)) = true := by simp; omega
    have Hh := hide (hd_drop t p' hlt)
    go_wp2_with fail
    go_quiet (fail)
    go_wp2_with fail
    go_quiet (fail)
    go_wp2_with fail
    go_ret
    exact ⟨p', x, retI (unhide Hh).symm, ((unhide Hr).draws _).draws _, unhide Hs⟩
  · have d1 : decide ((p' : Int) < (t.size : Int)) = false := by simp; omega
    have Hh := hide (hd_end t p' (by omega))
    go_wp2_with fail
    go_quiet (fail)
    go_wp2_with fail
    go_ret
    exact ⟨p', x, retI (unhide Hh).symm, (unhide Hr).draws _, unhide Hs⟩

set_option maxHeartbeats 1000000 in
theorem accept_any (b : Nat) (t : ByteArray) (p : Nat) (v : Value) (ps : List Pt) (c : Int) (w : World) (h : Rd w b t p v ps) (hc : 0 < c) :
    Calls Tryz.prog 93 #[.pointer (some ⟨b, 0, none⟩), .int .u8 c] w fun e w' => ∃ p' x, Skp t p p' x ∧
      ((¬ hd ((L t).drop p') = c ∧ e = .returned (.bool false) ∧ RdR b t v w w' p' v ps) ∨ (∃ y, (y.toNat : Int) = c ∧ (L t).drop p' = y :: (L t).drop (p' + 1) ∧ e = .returned (.bool true) ∧ RdR b t v w w' (p' + 1) v ps)) := by
  have H := hide h
  have hsz := h.sz
  clear h
  go_enter Tryz.func93, Tryz.ntmps93
  go_wp2_with fail
  refine (next_any b t p v ps _ (unhide H)).mono ?_
  rintro e w1 ⟨p', x, rfl, hr, hs⟩
  have c1 := hr.rd.c1
  have z1 := hr.rd.z1
  have hle := hr.rd.le
  have Hr := hide hr
  have Hs := hide hs
  clear hr hs
  obtain ⟨y, hy⟩ : ∃ y, hd ((L t).drop p') = y := ⟨_, rfl⟩
  rw [hy]
  have Hy := hide hy
  clear hy
  by_cases hyc : y = c
  · have e1 : (y != c) = false := by simp [hyc]
    have hlt : p' < t.size := by
      have := unhide Hy
      by_cases h : p' < t.size
      · exact h
      · rw [hd_end t p' (by omega)] at this; omega
    have Hl := hide (L_drop t p' hlt)
    have Hyc : Hid ((t[p'].toNat : Int) = c) := by show _ = _; rw [← hd_drop t p' hlt, unhide Hy, hyc]
    clear hyc
    go_wp2_with fail
    go_ret
    refine ⟨p', x, unhide Hs, .inr ⟨t[p'], unhide Hyc, unhide Hl, rfl, ?_⟩⟩
    have := (unhide Hr).move (a' := p' + 1) (by omega) (by have := (unhide Hr).rd.cnt; omega)
    simpa using this
  · have e1 : (y != c) = true := by simp [bne, hyc]
    have Hyc := hide hyc
    go_wp2_with fail
    go_ret
    exact ⟨p', x, unhide Hs, .inl ⟨by rw [unhide Hy]; exact unhide Hyc, rfl, unhide Hr⟩⟩

end Go.Proofs.YtdchbenfccofpabGreatDoor
