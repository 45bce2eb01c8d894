/- The program's Check. A record and a book: quiet. Imaged: copy of a text into bytes; the law's walk. Plain: the answers of Show, Check and Report to a text and to its plain form. Plain: the walk. -/
import Derived.Test.YtdchbenfccofpabGreatDoorP11
import Derived.Test.YtdchbenfccofpabGreatDoorP07
import Derived.Test.YtdchbenfccofpabGreatDoorP12
import Derived.Test.YtdchbenfccofpabGreatDoorP13
namespace Go.Proofs.YtdchbenfccofpabGreatDoor
open Go.RowKit Db

/-- What Check answers. -/
def CheckIs (s : ByteArray) (er pl : Int) : Prop :=
  (200 < s.size ∧ er = 1 ∧ pl = 0) ∨ (s.size ≤ 200 ∧ er = 2 ∧ plc 0 0 0 0 (L s) = pl ∧ 0 ≤ pl) ∨ (s.size ≤ 200 ∧ ∃ pd rows pss, Db.Form (L s) pd rows pss ∧ outc (pdv pd) pss = (er, pl))

set_option maxHeartbeats 1000000 in
theorem dayCheck_any (s : ByteArray) (w : World) (hm : s.size ≤ maxLen) :
    Calls Tryz.prog 10 #[.string s] w fun e w' => ∃ er pl : Int, e = .returned (.tuple #[.int .i64 er, .int .i64 pl]) ∧ CheckIs s er pl ∧ Below w.heap.size w w' := by
  by_cases hs : 200 < s.size
  · go_enter Tryz.func10, Tryz.ntmps10
    go_wp2_with fail
    refine (read_long s _ hs hm).mono ?_
    rintro e w1 ⟨rfl, hb⟩
    have Hb := hide hb
    have hsz := hb.size
    clear hb
    go_wp2_with fail
    go_ret2
    exact ⟨1, 0, rfl, .inl ⟨hs, rfl, rfl⟩, (unhide Hb).alloc hsz _⟩
  · have hs' : s.size ≤ 200 := by omega
    go_enter Tryz.func10, Tryz.ntmps10
    go_wp2_with fail
    refine (read_short s _ hs').mono ?_
    rintro e w1 ⟨hb, ⟨p, rfl, hp, hp0⟩ | ⟨vp, vr, pd, rows, pss, er, pl, rfl, hf, ho, hz, hok⟩⟩
    · have Hb := hide hb
      have hsz := hb.size
      have Hc : Hid (CheckIs s 2 p) := .inr (.inl ⟨hs', rfl, hp, hp0⟩)
      clear hb hp
      go_wp2_with fail
      go_ret2
      exact ⟨2, p, rfl, unhide Hc, (unhide Hb).alloc hsz _⟩
    · have Hb := hide hb
      have hsz := hb.size
      have Hc : Hid (CheckIs s er pl) := .inr (.inr ⟨hs', pd, rows, pss, hf, ho⟩)
      have hvp : ∃ a n c, vp = .slice a n c := by
        by_cases h0 : er = 0
        · obtain ⟨a, c, h⟩ := ownsRow_form (hok h0).1; exact ⟨_, _, _, h⟩
        · exact ⟨_, _, _, (hz h0).1⟩
      have hvr : ∃ a n c, vr = .slice a n c := by
        by_cases h0 : er = 0
        · obtain ⟨vs, hvs⟩ := (hok h0).2
          obtain ⟨a, c, h⟩ := ownsRow_form hvs.own; exact ⟨_, _, _, h⟩
        · exact ⟨_, _, _, (hz h0).2⟩
      obtain ⟨a1, n1, k1, rfl⟩ := hvp
      obtain ⟨a2, n2, k2, rfl⟩ := hvr
      clear hb hf ho hz hok
      go_wp2_with fail
      go_ret2
      exact ⟨er, pl, rfl, unhide Hc, (unhide Hb).alloc hsz _⟩

end Go.Proofs.YtdchbenfccofpabGreatDoor
namespace Go.Proofs.YtdchbenfccofpabGreatDoor
open Go.RowKit Db

theorem Rec.frB {w w' : World} {B B' q : Nat} {s : Bk} (h : Rec w B q s) (hf : FrT B' [82] w w') : Rec w' B q s := by
  obtain ⟨vp, vc, vt, tv, h⟩ := h
  exact ⟨_, _, _, _, h.frT hf (by decide) (by decide)⟩

end Go.Proofs.YtdchbenfccofpabGreatDoor
namespace Go.Proofs.YtdchbenfccofpabGreatDoor
open Go.RowKit Db

theorem run_copyS {P : Program} (w : World) (dT sT ty elem : TypeId) (g dLen dCap : Nat) (s : ByteArray) (cur : Array Value) (t : TypeId)
    (hu : P.underlying dT = some (.slice elem)) (hs : (P.info? elem).map (·.size) = some 1)
    (hg : w.heap[g]? = some (.cells cur t (0, 0))) (hfit : dLen ≤ cur.size) :
    (Builtin.copy_ #[dT, sT] ty #[.slice (some ⟨g, 0, none⟩) dLen dCap, .string s]).run P w =
      .ok (goInt (Nat.min s.size dLen)) (w.setRow g (cellsU ((L s).take dLen) ++ cur.toList.drop (cellsU ((L s).take dLen)).length).toArray) := by
  have hc : List.take (s.size.min dLen) (List.map (fun b : UInt8 => Value.int .u8 (b.toNat : Int)) s.data.toList) = cellsU ((L s).take dLen) := by
    unfold cellsU
    rw [List.map_take]
    show List.take (min s.size dLen) _ = _
    have h0 : (List.map (fun b : UInt8 => Value.int .u8 (b.toNat : Int)) (L s)).length = s.size := by rw [List.length_map, L_length]
    rcases Nat.le_total s.size dLen with h | h
    · rw [Nat.min_eq_left h, List.take_of_length_le (by show (List.map _ (L s)).length ≤ _; omega), List.take_of_length_le (by omega)]; rfl
    · rw [Nat.min_eq_right h]; rfl
  have hl : (cellsU ((L s).take dLen)).length ≤ dLen := by rw [cellsU_length, List.length_take]; omega
  have hst := run_storeCells_at P g 0 t (cellsU ((L s).take dLen)) 0 cur w hg (by omega) (fun v hv => by unfold cellsU at hv; obtain ⟨b, _, rfl⟩ := List.mem_map.1 hv; rfl)
  cases hq : P.info? elem with
  | none => simp [hq] at hs
  | some i =>
    simp only [Nat.zero_add, List.take_zero, List.nil_append, Nat.add_zero] at hst
    simp [Builtin.copy_, run_underlying hu, Builtin.lenOf, Builtin.firstCells, sizeOf, typeInfo, hq, hc, hst]
theorem wpList_copyS {P : Program} {w : World} {ops : Array Oper} {rest : List Oper} {o : Oper} {a : Act} {Q : Exit → Act → World → Prop} (hgd : o.guard = none) (d x : Operand) (dT sT : TypeId)
    (ho : o.op = .call { callee := .builtin .copy, args := #[d, x], argTypes := #[dT, sT] }) (elem : TypeId) (hu : P.underlying dT = some (.slice elem)) (hsz : (P.info? elem).map (·.size) = some 1)
    (g dLen dCap : Nat) (s : ByteArray) (hd : a.eval d = .slice (some ⟨g, 0, none⟩) dLen dCap) (hs : a.eval x = .string s)
    (cur : Array Value) (t : TypeId) (hg : w.heap[g]? = some (.cells cur t (0, 0))) (hfit : dLen ≤ cur.size)
    (h : ∀ w', w'.heap[g]? = some (.cells (cellsU ((L s).take dLen) ++ cur.toList.drop (cellsU ((L s).take dLen)).length).toArray t (0, 0)) → (∀ k, k ≠ g → w'.heap[k]? = w.heap[k]?) → w'.heap.size = w.heap.size → w'.os = w.os → w'.tape = w.tape → w'.output = w.output → wpList P ops Q rest (a.put o.dst (goInt (Nat.min s.size dLen))) w') : wpList P ops Q (o :: rest) a w := by
  refine wpList_plain hgd fun K hK => ?_
  have hrun := run_copyS (P := P) w dT sT o.type elem g dLen dCap s cur t hu hsz hg hfit
  unfold Oper.wp
  simp [execOp, ho, resolve, invoke, builtin, hd, hs, hrun, Result.andThen]
  refine hK _ _ (h _ ?_ (fun k hk => setRow_other w g k _ hk) (by simp [World.setRow]) rfl rfl rfl)
  rw [setRow_heap w g cur _ t _ hg]
/-- What Check and Report say of one text. -/
theorem chk_rep {b : Bk} {s u : ByteArray} {f pl g : Int} (h : CheckIs s f pl) (k : RepIs b s u g) : (f = 0 ∧ g = 0) ∨ (f = 0 ∧ g = 7) ∨ (¬ f = 0 ∧ g = f) := by
  rcases h with ⟨h1, rfl, _⟩ | ⟨h1, rfl, h2, h3⟩ | ⟨h1, pd, rows, pss, hf, ho⟩
  · rcases k with ⟨_, k, _⟩ | ⟨k, _⟩ | ⟨k, _⟩
    · omega
    · omega
    · omega
  · rcases k with ⟨k, _⟩ | ⟨_, k, _⟩ | ⟨_, pd, rows, pss, e0, pl', hf, ho, k⟩
    · omega
    · omega
    · have := hf.plc; omega
  · rcases k with ⟨k, _⟩ | ⟨_, _, k, _⟩ | ⟨_, pd', rows', pss', e0, pl', hf', ho', k⟩
    · omega
    · rw [hf.plc] at k; omega
    · obtain ⟨rfl, rfl⟩ := form_one hf hf'
      rw [ho] at ho'
      simp only [Prod.mk.injEq] at ho'
      obtain ⟨rfl, rfl⟩ := ho'
      rcases k with ⟨k1, k2, _⟩ | ⟨k1, _, k2, _⟩ | ⟨k1, _, k2, _⟩
      · exact .inr (.inr ⟨k1, k2⟩)
      · exact .inr (.inl ⟨k1, k2⟩)
      · exact .inl ⟨k1, k2⟩
theorem zeros_flat (n : Nat) : (List.replicate n zB).flatMap L = List.replicate (64 * n) 0 := by
  induction n with
  | zero => rfl
  | succ n ih =>
    have e : L zB = List.replicate 64 0 := L_list _
    rw [List.replicate_succ, List.flatMap_cons, ih, e, List.replicate_append_replicate]
    congr 1
    omega
theorem zeros_img : (List.replicate 128 zB).flatMap L = dskL [] := zeros_flat 128
theorem zeros_pos : 0 < ((List.replicate 128 zB).flatMap L).length := by rw [zeros_flat, List.length_replicate]; omega

set_option maxRecDepth 100000 in
set_option maxHeartbeats 8000000 in
theorem imaged_walk (jk : ByteArray) (v : Value) (xs : List KAct) (t : ByteArray) (w : World) (_ : jk.size ≤ maxLen) (h : KActsAt w w.heap.size v xs) (hlen : xs.length ≤ 9223372036854775800) (hm : t.size ≤ maxLen) (ht : Tab w) :
    Calls Tryz.prog 7 #[.string jk, v, .string t] w fun e w' => e = .returned (.bool true) ∧ Below w.heap.size w w' := by
  obtain ⟨ao, cap, rfl⟩ : ∃ ao cap, v = .slice ao xs.length cap := by obtain ⟨⟨ao, cap, rfl, _⟩, _⟩ := h; exact ⟨ao, cap, rfl⟩
  have H := hide h
  have Ht := hide ht
  have HT : Hid (∀ w', Below w.heap.size w w' → Tab w') := fun w' hf => (unhide Ht).below hf
  have Hm := hide hm
  clear h ht
  go_enter Tryz.func7, Tryz.ntmps7
  go_wp2_with fail
  refine (ready_any _ (unhide Ht)).mono ?_
  rintro e w1 ⟨q, p, rfl, _, hb1⟩
  have Hb1 := hide hb1
  have hsz1 := hb1.size
  clear hb1
  go_wp2_with fail
  refine (empty_any _).mono ?_
  rintro e w2 ⟨pd, rfl, hd2, hb2⟩
  have Hd2 := hide hd2
  have Hb2 := hide ((unhide Hb1).then' hsz1 hb2)
  have hsz2 := (unhide Hb2).size
  clear hd2 hb2
  go_wp2_with fail
  refine (dimage_any w1.heap.size pd (List.replicate 128 zB) w2 (unhide Hd2) (fun s hs => by rw [List.eq_of_mem_replicate hs]; decide) (by rw [List.length_replicate]; omega) zeros_pos).mono ?_
  rintro e w3 ⟨u3, rfl, hu3, hb3⟩
  have Hb3 := hide ((unhide Hb2).then' hsz2 hb3)
  have hsz3 := (unhide Hb3).size
  rw [zeros_img] at hu3
  have Hu3 := hide hu3
  clear hu3 hb3
  go_wp2_with fail
  refine (mount_any u3 w3).mono ?_
  have hlm := Log.nil.mount (by simp)
  rintro e w4 ⟨h4, hb4⟩
  rw [unhide Hu3, hlm.1] at h4
  have h4' := h4.resolve_left (fun h => h.1 hlm.2)
  obtain ⟨_, p4, rfl, hl4⟩ := h4'
  have Hl4 := hide hl4.led
  have Hb4 := hide ((unhide Hb3).then' hsz3 hb4)
  have hsz4 := (unhide Hb4).size
  clear hlm h4 hl4 hb4
  go_wp2_with fail
  refine (blank_any _).mono ?_
  rintro e w5 ⟨q5, rfl, hr5, hb5⟩
  have Hr5 := hide hr5
  have Hl5 := hide ((unhide Hl4).kept hb5)
  have Hb5 := hide ((unhide Hb4).then' hsz4 hb5)
  have hsz5 := (unhide Hb5).size
  clear hr5 hb5
  go_wp2_with fail
  refine (tells_any w4.heap.size w3.heap.size q5 p4 bk0 w5 (unhide Hr5) (unhide Hl5) (unhide HT _ (unhide Hb5))).mono ?_
  rintro e w6 ⟨rfl, hb6⟩
  have Hb6 := hide ((unhide Hb5).then' hsz5 hb6)
  have hsz6 := (unhide Hb6).size
  clear hb6
  go_wp2_with fail
  refine (mount_any jk w6).mono ?_
  rintro e w7 ⟨h7, hb7⟩
  have Hb7 := hide ((unhide Hb6).then' hsz6 hb7)
  have hsz7 := (unhide Hb7).size
  clear hb7
  have hne : ((jk.size : Int) != 8192) = true ∧ e = .returned (.tuple #[.pointer none, .int .i64 18]) ∨ ((jk.size : Int) != 8192) = false ∧ ∃ o er, e = .returned (.tuple #[.pointer o, .int .i64 er]) := by
    by_cases hs : jk.size = 8192
    · refine .inr ⟨by simp [hs], ?_⟩
      rcases h7 with ⟨_, h⟩ | ⟨_, p, h, _⟩
      · exact ⟨_, _, h⟩
      · exact ⟨_, _, h⟩
    · refine .inl ⟨by simp; omega, ?_⟩
      rcases h7 with ⟨_, h⟩ | ⟨h, _⟩
      · exact h
      · exact absurd h.1 (by rw [L_length]; exact hs)
  clear h7
  have hmk := run_makeU 8192 (by omega) w7
  obtain ⟨g, hg⟩ : ∃ g, w7.heap.size = g := ⟨_, rfl⟩
  obtain ⟨W, hW⟩ : ∃ W, w7.alloc (.cells (madeCells #[.int .u8 0] 8192) 5) = W := ⟨_, rfl⟩
  rw [hg, hW] at hmk
  rw [hg] at hsz7
  have HB : Hid (Blk W g (madeCells #[.int .u8 0] 8192) 5) := by rw [← hW, ← hg]; exact Blk.new _ _ _
  have HbW : Hid (Below w.heap.size w W) := by rw [← hW]; exact (unhide Hb7).alloc (by omega) _
  have hWs : W.heap.size = g + 1 := by rw [← hW, ← hg]; simp
  have hmk2 : (Instr.makeSlice 64 (.int .i64 8192) (.int .i64 8192)).run Tryz.prog w7 = .ok (.slice (some ⟨g, 0, none⟩) 8192 8192) W := hmk
  clear hmk hW
  have Hcopy : Hid (∀ (w8 : World), w8.heap[g]? = some (.cells (cellsU ((L jk).take 8192) ++ (madeCells #[.int .u8 0] 8192).toList.drop (cellsU ((L jk).take 8192)).length).toArray 5 (0, 0)) → ∃ (u : ByteArray), (convert 64 9 (.slice (some ⟨g, 0, none⟩) 8192 8192)).run Tryz.prog w8 = .ok (.string u) w8) := by
    intro w8 h8
    have hk : (cellsU ((L jk).take 8192)).length ≤ 8192 := by rw [cellsU_length, List.length_take]; omega
    have e1 : cellsU ((L jk).take 8192) ++ (madeCells #[.int .u8 0] 8192).toList.drop (cellsU ((L jk).take 8192)).length = cellsU ((L jk).take 8192 ++ List.replicate (8192 - ((L jk).take 8192).length) 0) := by
      rw [made_zeroU, cellsU_length]
      unfold cellsU
      rw [List.map_append, ← List.map_drop, List.drop_replicate]
    have e2 : ((L jk).take 8192 ++ List.replicate (8192 - ((L jk).take 8192).length) (0 : UInt8)).length = 8192 := by
      rw [List.length_append, List.length_replicate, List.length_take]; omega
    rw [e1] at h8
    obtain ⟨l, hl⟩ : ∃ l, (L jk).take 8192 ++ List.replicate (8192 - ((L jk).take 8192).length) (0 : UInt8) = l := ⟨_, rfl⟩
    rw [hl] at h8 e2
    have h9 := owns_new (w := w8) (B := g) (g := g) (e := 5) (size := 1) (n := 8192) (cs := (cellsU l).toArray) h8 (Nat.le_refl _) (by unfold maxLen; omega) (by rw [List.size_toArray, cellsU_length, e2])
    exact ⟨_, conv_bytes l w8 g _ (by rw [e2]; exact h9) (by omega)⟩
  rcases hne with ⟨hne, rfl⟩ | ⟨hne, o7, er7, rfl⟩
  all_goals
    go_upto_region 12 with fail
    go_upto_region 13 with (first
      | (refine wpList_copyS rfl (.tmp 63) (.tmp 64) 64 9 rfl 5 Tryz.underlying64 (by kernel_rfl) g 8192 8192 jk rfl rfl (madeCells #[.int .u8 0] 8192) 5 (unhide HB) (by rw [size_madeCells]; exact Nat.le_refl _) ?_; intro w8 hg8 ho8 hs8 os8 tp8 ou8; have hcv := unhide Hcopy w8 hg8; obtain ⟨u8, hcv⟩ := hcv; have Hb8 : Hid (Below w.heap.size w w8) := (unhide HbW).trans ⟨os8, tp8, ou8, (by omega), (fun k hk => ho8 k (by omega))⟩; have hsz8 := (unhide Hb8).size; clear hg8 ho8 hs8 os8 tp8 ou8))
    clear Hcopy HB HbW hne
    go_wp2_with fail
    refine (mount_any u8 w8).mono ?_
    rintro e w9 ⟨h9, hb9⟩
    have Hb9 := hide ((unhide Hb8).then' hsz8 hb9)
    have hsz9 := (unhide Hb9).size
    clear hb9 hcv
    rcases h9 with ⟨_, rfl⟩ | ⟨_, p9, rfl, h9⟩
    · go_wp2_with fail
      go_ret
      exact ⟨rfl, unhide Hb9⟩
    · have Hl9 : Hid (LedW w9 w.heap.size p9 (mntS (L u8)).u [] (mntS (L u8)).s) := h9.base hsz8
      obtain ⟨t9, ht9⟩ : ∃ t9 : KS, (⟨(mntS (L u8)).s, (mntS (L u8)).u, []⟩ : KS) = t9 := ⟨_, rfl⟩
      have Hk9 : Hid (LedW w9 w.heap.size p9 t9.u t9.ws t9.s) := by rw [← ht9]; exact unhide Hl9
      clear h9 Hl9 ht9
      go_wp2_with fail
      go_loopg [13] xs.length (fun m i wr => ∃ (j : Nat), j ≤ xs.length ∧ m = xs.length - j ∧ i = .int .i64 j ∧ Hid (∃ t' : KS, LedW wr w.heap.size p9 t'.u t'.ws t'.s) ∧ Hid (Below w.heap.size w wr))
      case atStart => exact ⟨0, by omega, rfl, rfl, ⟨t9, unhide Hk9⟩, unhide Hb9⟩
      case round =>
        obtain ⟨j, hj', rfl, rfl, HL, Hb⟩ := hrel
        have hsz := (unhide Hb).size
        by_cases hlt : j < xs.length
        · obtain ⟨x, hx⟩ : ∃ x, xs[j]? = some x := ⟨xs[j], List.getElem?_eq_getElem hlt⟩
          have hat := (unhide H).below (unhide Hb)
          have hok := hat.oks x (List.mem_of_getElem? hx)
          obtain ⟨⟨ao', cap', e1, hr⟩, _⟩ := hat
          simp only [Value.slice.injEq, true_and] at e1
          obtain ⟨rfl, rfl⟩ := e1
          have hr2 := hr.resolve_left (by rintro rfl; simp at hx)
          obtain ⟨b, off, rfl, hbl, hc⟩ := hr2
          obtain ⟨d0, d1, d2, d3⟩ := hc j x hx
          have hjj : (j : Int) < (xs.length : Int) := by omega
          obtain ⟨⟨s, u, ws⟩, hled⟩ := unhide HL
          obtain ⟨kd, xa, xb, xao, xcap, ls⟩ := x
          simp only at d0 d1 d2 d3 hok hled
          have Hc := hide (calledW_any w.heap.size p9 u ws s kd xa xb xao xcap ls wr hled hok.at' hok.few)
          clear hr hc hx hok hled
          go_wp2_with fail
          refine (unhide Hc).mono ?_
          rintro e w10 ⟨rfl, k1, k2⟩
          have HL10 : Hid (∃ t' : KS, LedW w10 w.heap.size p9 t'.u t'.ws t'.s) := ⟨⟨_, _, _⟩, k1⟩
          have Hb10 : Hid (Below w.heap.size w w10) := (unhide Hb).trans (k2.below hsz)
          clear k1 k2 Hc
          go_wp2_with fail
          go_roundg (xs.length - (j + 1))
          case measure => omega
          case rel => exact ⟨j + 1, by omega, rfl, by go_num, unhide HL10, unhide Hb10⟩
        · obtain rfl : j = xs.length := by omega
          obtain ⟨⟨s, u, ws⟩, hled⟩ := unhide HL
          have HL0 := hide hled.led
          clear hled
          go_wp2_with fail
          refine (dayCheck_any t wr (unhide Hm)).mono ?_
          rintro e w10 ⟨f, pl, rfl, hck, hb10⟩
          have HL10 := hide ((unhide HL0).kept hb10)
          have Hb10 := hide ((unhide Hb).then' hsz hb10)
          have hsz10 := (unhide Hb10).size
          have Hck := hide hck
          clear hb10 hck
          go_wp2_with fail
          refine (dayReport_any w.heap.size p9 s t w10 (unhide HL10) (unhide Hm) (unhide HT _ (unhide Hb10))).mono ?_
          rintro e w11 ⟨ru, gg, rfl, hrp, hb11⟩
          have hfg := chk_rep (unhide Hck) hrp
          have HL11 := hide ((unhide HL10).kept hb11)
          have Hb11 := hide ((unhide Hb10).then' hsz10 hb11)
          have hsz11 := (unhide Hb11).size
          have Hfg := hide hfg
          clear hb11 hrp hfg
          go_wp2_with fail
          refine (dayAccounts_any w.heap.size p9 s w11 (unhide HL11) (unhide HT _ (unhide Hb11))).mono ?_
          rintro e w12 ⟨u12, rfl, hu12, hb12⟩
          have HL12 := hide ((unhide HL11).kept hb12)
          have Hb12 := hide ((unhide Hb11).then' hsz11 hb12)
          have hsz12 := (unhide Hb12).size
          have Hu12 := hide hu12
          clear hb12 hu12
          go_wp2_with fail
          refine (dayAccounts_any w.heap.size p9 s w12 (unhide HL12) (unhide HT _ (unhide Hb12))).mono ?_
          rintro e w13 ⟨u13, rfl, hu13, hb13⟩
          obtain rfl : u13 = u12 := L_inj (hu13.trans (unhide Hu12).symm)
          have Hb13 := hide ((unhide Hb12).then' hsz12 hb13)
          clear hb13 hu13
          rcases unhide Hfg with ⟨rfl, rfl⟩ | ⟨rfl, rfl⟩ | ⟨hf, rfl⟩
          · go_wp2_with fail
            go_ret
            exact ⟨rfl, unhide Hb13⟩
          · go_wp2_with fail
            go_ret
            exact ⟨rfl, unhide Hb13⟩
          · have hf1 : (gg == 0) = false := by simpa using hf
            have hf2 : (gg != 0) = true := by simpa using hf
            go_wp2_with fail
            go_ret
            exact ⟨rfl, unhide Hb13⟩

end Go.Proofs.YtdchbenfccofpabGreatDoor
namespace Go.Proofs.YtdchbenfccofpabGreatDoor
open Go.RowKit Db

/-- What Show answers to the law's own text. -/
theorem pl_first {s u : ByteArray} {er : Int} (h : ShowIs s u er) (hs : L s = plT) : er = 0 ∧ u = ⟨#[48, 45, 57, 124, 49, 45, 50, 45, 40, 51, 45, 52, 41]⟩ := by
  have hz : s.size = 31 := by rw [← L_length, hs]; rfl
  rcases h with ⟨h1, _⟩ | ⟨_, _, h1, _⟩ | ⟨_, pd, rows, pss, pl, hf, ho, h⟩
  · omega
  · rw [hs, pl_form.plc] at h1; omega
  · rw [hs] at hf
    obtain ⟨rfl, rfl⟩ := form_one pl_form hf
    rw [pl_outc] at ho
    simp only [Prod.mk.injEq] at ho
    obtain ⟨rfl, rfl⟩ := ho
    rcases h with ⟨h, _⟩ | ⟨_, h, _⟩
    · exact absurd rfl h
    · refine ⟨rfl, L_inj ?_⟩
      rw [h, pl_show]; rfl
/-- A text that has no plain form. -/
theorem pl_no {b : Bk} {s u x : ByteArray} {e f pl g : Int} (h : ShowIs s u e) (hc : CheckIs s f pl) (hr : RepIs b s x g) (he : ¬ e = 0) : e = f ∧ u = ⟨#[]⟩ ∧ x = ⟨#[]⟩ ∧ g = f := by
  rcases h with ⟨h1, rfl, rfl⟩ | ⟨h0, rfl, h1, rfl⟩ | ⟨h0, pd, rows, pss, pl1, hf, ho, h⟩
  · rcases hc with ⟨_, rfl, _⟩ | ⟨k, _⟩ | ⟨k, _⟩
    · rcases hr with ⟨_, rfl, rfl⟩ | ⟨k, _⟩ | ⟨k, _⟩
      · exact ⟨rfl, rfl, rfl, rfl⟩
      · omega
      · omega
    · omega
    · omega
  · rcases hc with ⟨k, _⟩ | ⟨_, rfl, _⟩ | ⟨_, pd, rows, pss, hf, _⟩
    · omega
    · rcases hr with ⟨k, _⟩ | ⟨_, rfl, _, rfl⟩ | ⟨_, pd, rows, pss, _, _, hf, _⟩
      · omega
      · exact ⟨rfl, rfl, rfl, rfl⟩
      · rw [hf.plc] at h1; omega
    · rw [hf.plc] at h1; omega
  · rcases hc with ⟨k, _⟩ | ⟨_, _, k, k'⟩ | ⟨_, pd', rows', pss', hf', ho'⟩
    · omega
    · rw [hf.plc] at k; omega
    · obtain ⟨rfl, rfl⟩ := form_one hf hf'
      rw [ho] at ho'
      simp only [Prod.mk.injEq] at ho'
      obtain ⟨rfl, rfl⟩ := ho'
      rcases h with ⟨_, rfl⟩ | ⟨h, _⟩
      · rcases hr with ⟨k, _⟩ | ⟨_, _, k, _⟩ | ⟨_, pd'', rows'', pss'', e0, pl'', hf'', ho'', k⟩
        · omega
        · rw [hf.plc] at k; omega
        · obtain ⟨rfl, rfl⟩ := form_one hf hf''
          rw [ho] at ho''
          simp only [Prod.mk.injEq] at ho''
          obtain ⟨rfl, rfl⟩ := ho''
          rcases k with ⟨_, rfl, rfl⟩ | ⟨k, _⟩ | ⟨k, _⟩
          · exact ⟨rfl, rfl, rfl, rfl⟩
          · exact absurd k he
          · exact absurd k he
      · exact absurd h he
/-- A text that has one. -/
structure PlOk (s u : ByteArray) (pd : List (List UInt8 × List UInt8)) (rows rows' : List (List UInt8)) (pss : List (List Pt)) : Prop where
  sz : s.size ≤ 200
  frm : Db.Form (L s) pd rows pss
  frm' : Db.Form (L u) (pd.map cnD) rows' pss
  ho : outc (pdv pd) pss = (0, 0)
  val : L u = shT pd pss
  le : u.size ≤ s.size
  no : ∀ c ∈ L u, ¬ c.toNat = 32
theorem pl_yes {s u : ByteArray} (h : ShowIs s u 0) : ∃ pd rows rows' pss, PlOk s u pd rows rows' pss := by
  rcases h with ⟨_, h, _⟩ | ⟨_, h, _⟩ | ⟨h0, pd, rows, pss, pl1, hf, ho, h⟩
  · omega
  · omega
  · rcases h with ⟨h, _⟩ | ⟨_, h, _⟩
    · exact absurd rfl h
    · obtain ⟨rows', hf'⟩ := shT_form hf (by rw [L_length]; exact h0)
      have hp := (outc_small ho rfl).2.2
      subst hp
      have hl := shT_len hf
      rw [← h, L_length, L_length] at hl
      exact ⟨pd, rows, rows', pss, h0, hf, by rw [h]; exact hf', ho, h, hl, fun c hc => shT_nobl hf c (by rw [← h]; exact hc)⟩
theorem PlOk.days {s u : ByteArray} {pd : List (List UInt8 × List UInt8)} {rows rows' : List (List UInt8)} {pss : List (List Pt)} (k : PlOk s u pd rows rows' pss) : ∀ p ∈ pd, dayS p.1 ∧ dayS p.2 := k.frm.sht.days
theorem PlOk.check {s u : ByteArray} {pd : List (List UInt8 × List UInt8)} {rows rows' : List (List UInt8)} {pss : List (List Pt)} (k : PlOk s u pd rows rows' pss) {f pl : Int} (h : CheckIs s f pl) : f = 0 := by
  have hz := k.sz
  rcases h with ⟨h, _⟩ | ⟨_, _, h1, h2⟩ | ⟨_, pd', rows', pss', hf, ho⟩
  · omega
  · rw [k.frm.plc] at h1; omega
  · obtain ⟨rfl, rfl⟩ := form_one k.frm hf
    rw [k.ho] at ho
    simp only [Prod.mk.injEq] at ho
    exact ho.1.symm
theorem PlOk.check' {s u : ByteArray} {pd : List (List UInt8 × List UInt8)} {rows rows' : List (List UInt8)} {pss : List (List Pt)} (k : PlOk s u pd rows rows' pss) {f pl : Int} (h : CheckIs u f pl) : f = 0 ∧ pl = 0 := by
  have hz := k.sz
  have hl := k.le
  rcases h with ⟨h, _⟩ | ⟨_, _, h1, h2⟩ | ⟨_, pd', rows', pss', hf, ho⟩
  · omega
  · rw [k.frm'.plc] at h1; omega
  · obtain ⟨rfl, rfl⟩ := form_one k.frm' hf
    rw [cnD_pdv k.days, k.ho] at ho
    simp only [Prod.mk.injEq] at ho
    exact ⟨ho.1.symm, ho.2.symm⟩
theorem PlOk.show' {s u t : ByteArray} {pd : List (List UInt8 × List UInt8)} {rows rows' : List (List UInt8)} {pss : List (List Pt)} (k : PlOk s u pd rows rows' pss) {e : Int} (h : ShowIs u t e) : e = 0 ∧ t = u := by
  have hz := k.sz
  have hl := k.le
  rcases h with ⟨h, _⟩ | ⟨_, _, h1, _⟩ | ⟨_, pd', rows', pss', pl, hf, ho, h⟩
  · omega
  · rw [k.frm'.plc] at h1; omega
  · obtain ⟨rfl, rfl⟩ := form_one k.frm' hf
    rw [cnD_pdv k.days, k.ho] at ho
    simp only [Prod.mk.injEq] at ho
    obtain ⟨rfl, rfl⟩ := ho
    rcases h with ⟨h, _⟩ | ⟨_, h, _⟩
    · exact absurd rfl h
    · refine ⟨rfl, L_inj ?_⟩
      rw [h, shT_again k.frm, k.val]
theorem PlOk.rep {b : Bk} {s u x y : ByteArray} {pd : List (List UInt8 × List UInt8)} {rows rows' : List (List UInt8)} {pss : List (List Pt)} (k : PlOk s u pd rows rows' pss) {g j : Int} (h : RepIs b s x g) (h' : RepIs b u y j) : y = x ∧ j = g := by
  have hz := k.sz
  have hl := k.le
  rcases h with ⟨h, _⟩ | ⟨_, _, h, _⟩ | ⟨_, pd1, rows1, pss1, e1, pl1, hf, ho, h⟩
  · omega
  · rw [k.frm.plc] at h; omega
  · obtain ⟨rfl, rfl⟩ := form_one k.frm hf
    rw [k.ho] at ho
    simp only [Prod.mk.injEq] at ho
    obtain ⟨rfl, rfl⟩ := ho
    rcases h' with ⟨h, _⟩ | ⟨_, _, h, _⟩ | ⟨_, pd2, rows2, pss2, e2, pl2, hf', ho', h'⟩
    · omega
    · rw [k.frm'.plc] at h; omega
    · obtain ⟨rfl, rfl⟩ := form_one k.frm' hf'
      rw [cnD_pdv k.days, k.ho] at ho'
      simp only [Prod.mk.injEq] at ho'
      obtain ⟨rfl, rfl⟩ := ho'
      rw [cnD_pdv k.days] at h'
      rcases h with ⟨h, _⟩ | ⟨_, h1, rfl, rfl⟩ | ⟨_, h1, rfl, h2⟩
      · exact absurd rfl h
      · rcases h' with ⟨h, _⟩ | ⟨_, _, rfl, rfl⟩ | ⟨_, h3, _⟩
        · exact absurd rfl h
        · exact ⟨rfl, rfl⟩
        · rw [h1] at h3; cases h3
      · rcases h' with ⟨h, _⟩ | ⟨_, h3, _⟩ | ⟨_, _, rfl, h3⟩
        · exact absurd rfl h
        · rw [h1] at h3; cases h3
        · exact ⟨L_inj (h3.trans h2.symm), rfl⟩
end Go.Proofs.YtdchbenfccofpabGreatDoor
namespace Go.Proofs.YtdchbenfccofpabGreatDoor
open Go.RowKit Db

set_option maxRecDepth 100000 in
set_option maxHeartbeats 8000000 in
theorem plain_walk (t : ByteArray) (v : Value) (xs : List KAct) (w : World) (hm : t.size ≤ maxLen) (h : KActsAt w w.heap.size v xs) (hlen : xs.length ≤ 9223372036854775800) (ht : Tab w) :
    Calls Tryz.prog 3 #[.string t, v] w fun e w' => e = .returned (.bool true) ∧ Below w.heap.size w w' := by
  have HT : Hid (∀ w', Below w.heap.size w w' → Tab w') := fun w' hf => ht.below hf
  have Hp := hide (kplayed_any v xs w h hlen ht)
  obtain ⟨ao, cap, rfl⟩ : ∃ ao cap, v = .slice ao xs.length cap := by obtain ⟨⟨ao, cap, rfl, _⟩, _⟩ := h; exact ⟨ao, cap, rfl⟩
  have Hm := hide hm
  obtain ⟨tt, htt⟩ : ∃ tt : KS, krun rdy xs = tt := ⟨_, rfl⟩
  rw [htt] at Hp
  clear h ht hm htt
  go_enter Tryz.func3, Tryz.ntmps3
  go_wp2_with fail
  refine (unhide Hp).mono ?_
  rintro e w1 ⟨q, p, rfl, h1, hb1⟩
  have HL1 := hide h1.led.led
  have Hb1 := hide hb1
  have hsz1 := hb1.size
  clear h1 hb1 Hp
  go_wp2_with fail
  refine (dayShow_any _ w1 (by unfold maxLen; decide) (unhide HT _ (unhide Hb1))).mono ?_
  rintro e w2 ⟨u2, er2, rfl, hs2, hb2⟩
  obtain ⟨rfl, rfl⟩ := pl_first hs2 rfl
  have HL2 := hide ((unhide HL1).kept hb2)
  have Hb2 := hide ((unhide Hb1).then' hsz1 hb2)
  have hsz2 := (unhide Hb2).size
  clear hs2 hb2 HL1
  go_wp2_with fail
  refine (dayCheck_any t w2 (unhide Hm)).mono ?_
  rintro e w3 ⟨f, pl, rfl, hck, hb3⟩
  have Hck := hide hck
  have HL3 := hide ((unhide HL2).kept hb3)
  have Hb3 := hide ((unhide Hb2).then' hsz2 hb3)
  have hsz3 := (unhide Hb3).size
  clear hck hb3 HL2
  go_wp2_with fail
  refine (dayShow_any t w3 (unhide Hm) (unhide HT _ (unhide Hb3))).mono ?_
  rintro e w4 ⟨s, er, rfl, hsh, hb4⟩
  have Hsh := hide hsh
  have HL4 := hide ((unhide HL3).kept hb4)
  have Hb4 := hide ((unhide Hb3).then' hsz3 hb4)
  have hsz4 := (unhide Hb4).size
  clear hsh hb4 HL3
  go_wp2_with fail
  refine (dayReport_any w.heap.size p tt.s t w4 (unhide HL4) (unhide Hm) (unhide HT _ (unhide Hb4))).mono ?_
  rintro e w5 ⟨x, g, rfl, hrp, hb5⟩
  have Hrp := hide hrp
  have HL5 := hide ((unhide HL4).kept hb5)
  have Hb5 := hide ((unhide Hb4).then' hsz4 hb5)
  have hsz5 := (unhide Hb5).size
  clear hrp hb5 HL4
  by_cases he : er = 0
  · subst he
    obtain ⟨pd, rows, rows', pss, k⟩ := pl_yes (unhide Hsh)
    obtain rfl := k.check (unhide Hck)
    have Hk := hide k
    have hss : s.size ≤ 200 := Nat.le_trans k.le k.sz
    have hle : ¬ t.size < s.size := by have := k.le; omega
    clear k
    go_wp2_with fail
    refine (dayCheck_any s w5 (by unfold maxLen; omega)).mono ?_
    rintro e w6 ⟨f6, pl6, rfl, hck, hb6⟩
    obtain ⟨rfl, rfl⟩ := (unhide Hk).check' hck
    have HL6 := hide ((unhide HL5).kept hb6)
    have Hb6 := hide ((unhide Hb5).then' hsz5 hb6)
    have hsz6 := (unhide Hb6).size
    clear hck hb6 HL5
    go_wp2_with fail
    refine (dayShow_any s w6 (by unfold maxLen; omega) (unhide HT _ (unhide Hb6))).mono ?_
    rintro e w7 ⟨s7, er7, rfl, hsh, hb7⟩
    obtain ⟨rfl, rfl⟩ := (unhide Hk).show' hsh
    have HL7 := hide ((unhide HL6).kept hb7)
    have Hb7 := hide ((unhide Hb6).then' hsz6 hb7)
    have hsz7 := (unhide Hb7).size
    clear hsh hb7 HL6
    go_wp2_with fail
    refine (dayReport_any w.heap.size p tt.s s7 w7 (unhide HL7) (by unfold maxLen; omega) (unhide HT _ (unhide Hb7))).mono ?_
    rintro e w8 ⟨y, j, rfl, hrp, hb8⟩
    obtain ⟨rfl, rfl⟩ := (unhide Hk).rep (unhide Hrp) hrp
    have Hb8 := hide ((unhide Hb7).then' hsz7 hb8)
    have Hno := hide (unhide Hk).no
    clear hrp hb8 HL7 Hk Hsh Hck Hrp
    go_wp2_with fail
    go_loopg [20] s7.size (fun m i wr => ∃ k : Nat, k ≤ s7.size ∧ m = s7.size - k ∧ i = .int .i64 k ∧ Hid (Below w.heap.size w wr))
    case atStart => exact ⟨0, by omega, rfl, rfl, unhide Hb8⟩
    case round =>
      obtain ⟨k, hk, rfl, rfl, Hb⟩ := hrel
      by_cases hlt : k < s7.size
      · have hc : ((s7[k].toNat : Int) == 32) = false := by
          rw [beq_eq_false_iff_ne]
          intro hx
          exact unhide Hno s7[k] (List.mem_of_getElem? (L_get? s7 k hlt)) (by omega)
        go_wp2_with fail
        go_roundg (s7.size - (k + 1))
        case measure => omega
        case rel => exact ⟨k + 1, by omega, rfl, by go_num, unhide Hb⟩
      · obtain rfl : k = s7.size := by omega
        go_wp2_with fail
        go_ret
        exact ⟨rfl, unhide Hb⟩
  · have hne : (er == 0) = false := by simpa using he
    have hne2 : (er != 0) = true := by simpa using he
    obtain ⟨rfl, rfl, rfl, rfl⟩ := pl_no (unhide Hsh) (unhide Hck) (unhide Hrp) he
    clear HL5 Hsh Hck Hrp
    go_wp2_with fail
    go_ret
    exact ⟨rfl, unhide Hb5⟩
end Go.Proofs.YtdchbenfccofpabGreatDoor
