/- Imaged: copy of a text into bytes; the law's walk. What a book has written, by the acts that it said yes to; what a crash leaves of it. Resumed: texts' lengths; proper; crash. Crashes: the records of some acts, one by one; two states that differ by one of them tell otherwise. Frames that keep a set of blocks: two books at once. The program's book whose blocks lie outside of that set. Two books at once: Open, Close. Two books at once: Post. -/
import Derived.Test.YtdchbenfccofpabGreatDoorC08
import Derived.Test.YtdchbenfccofpabGreatDoorC11
import Derived.Test.YtdchbenfccofpabGreatDoorC12
import Derived.Test.YtdchbenfccofpabGreatDoorC07
import Derived.Test.YtdchbenfccofpabGreatDoorC04
import Derived.Maps.AppendAt
namespace Go.Proofs.YtdchbenfccofpabGreatDoor
open Go.RowKit Db

theorem run_copyS {P : Program} (w : World) (dT sT ty elem : TypeId) (g dLen dCap : Nat) (s : ByteArray) (cur : Array Value) (t : TypeId)
    (hu : P.underlying dT = some (.slice elem)) (hs : (P.info? elem).map (·.size) = some 1)
    (hg : w.heap[g]? = some (.cells cur t (0, 0))) (hfit : dLen ≤ cur.size) :
    (Builtin.copy_ #[dT, sT] ty #[.slice (some ⟨g, 0, none⟩) dLen dCap, .string s]).run P w =
      .ok (goInt (Nat.min s.size dLen)) (w.setRow g (cellsU ((L s).take dLen) ++ cur.toList.drop (cellsU ((L s).take dLen)).length).toArray) := by
  have hc : List.take (s.size.min dLen) (List.map (fun b : UInt8 => Value.int .u8 (b.toNat : Int)) s.data.toList) = cellsU ((L s).take dLen) := by
    unfold cellsU
    rw [List.map_take]
    show List.take (min s.size dLen) _ = _
    have h0 : (List.map (fun b : UInt8 => Value.int .u8 (b.toNat : Int)) (L s)).length = s.size := by rw [List.length_map, L_length]
    rcases Nat.le_total s.size dLen with h | h
    · rw [Nat.min_eq_left h, List.take_of_length_le (by show (List.map _ (L s)).length ≤ _; omega), List.take_of_length_le (by omega)]; rfl
    · rw [Nat.min_eq_right h]; rfl
  have hl : (cellsU ((L s).take dLen)).length ≤ dLen := by rw [cellsU_length, List.length_take]; omega
  have hst := run_storeCells_at P g 0 t (cellsU ((L s).take dLen)) 0 cur w hg (by omega) (fun v hv => by unfold cellsU at hv; obtain ⟨b, _, rfl⟩ := List.mem_map.1 hv; rfl)
  cases hq : P.info? elem with
  | none => simp [hq] at hs
  | some i =>
    simp only [Nat.zero_add, List.take_zero, List.nil_append, Nat.add_zero] at hst
    simp [Builtin.copy_, run_underlying hu, Builtin.lenOf, Builtin.firstCells, sizeOf, typeInfo, hq, hc, hst]
theorem wpList_copyS {P : Program} {w : World} {ops : Array Oper} {rest : List Oper} {o : Oper} {a : Act} {Q : Exit → Act → World → Prop} (hgd : o.guard = none) (d x : Operand) (dT sT : TypeId)
    (ho : o.op = .call { callee := .builtin .copy, args := #[d, x], argTypes := #[dT, sT] }) (elem : TypeId) (hu : P.underlying dT = some (.slice elem)) (hsz : (P.info? elem).map (·.size) = some 1)
    (g dLen dCap : Nat) (s : ByteArray) (hd : a.eval d = .slice (some ⟨g, 0, none⟩) dLen dCap) (hs : a.eval x = .string s)
    (cur : Array Value) (t : TypeId) (hg : w.heap[g]? = some (.cells cur t (0, 0))) (hfit : dLen ≤ cur.size)
    (h : ∀ w', w'.heap[g]? = some (.cells (cellsU ((L s).take dLen) ++ cur.toList.drop (cellsU ((L s).take dLen)).length).toArray t (0, 0)) → (∀ k, k ≠ g → w'.heap[k]? = w.heap[k]?) → w'.heap.size = w.heap.size → w'.os = w.os → w'.tape = w.tape → w'.output = w.output → wpList P ops Q rest (a.put o.dst (goInt (Nat.min s.size dLen))) w') : wpList P ops Q (o :: rest) a w := by
  refine wpList_plain hgd fun K hK => ?_
  have hrun := run_copyS (P := P) w dT sT o.type elem g dLen dCap s cur t hu hsz hg hfit
  unfold Oper.wp
  simp [execOp, ho, resolve, invoke, builtin, hd, hs, hrun, Result.andThen]
  refine hK _ _ (h _ ?_ (fun k hk => setRow_other w g k _ hk) (by simp [World.setRow]) rfl rfl rfl)
  rw [setRow_heap w g cur _ t _ hg]
/-- What Check and Report say of one text. -/
theorem chk_rep {b : Bk} {s u : ByteArray} {f pl g : Int} (h : CheckIs s f pl) (k : RepIs b s u g) : (f = 0 ∧ g = 0) ∨ (f = 0 ∧ g = 7) ∨ (¬ f = 0 ∧ g = f) := by
  rcases h with ⟨h1, rfl, _⟩ | ⟨h1, rfl, h2, h3⟩ | ⟨h1, pd, rows, pss, hf, ho⟩
  · rcases k with ⟨_, k, _⟩ | ⟨k, _⟩ | ⟨k, _⟩
    · omega
    · omega
    · omega
  · rcases k with ⟨k, _⟩ | ⟨_, k, _⟩ | ⟨_, pd, rows, pss, e0, pl', hf, ho, k⟩
    · omega
    · omega
    · have := hf.plc; omega
  · rcases k with ⟨k, _⟩ | ⟨_, _, k, _⟩ | ⟨_, pd', rows', pss', e0, pl', hf', ho', k⟩
    · omega
    · rw [hf.plc] at k; omega
    · obtain ⟨rfl, rfl⟩ := form_one hf hf'
      rw [ho] at ho'
      simp only [Prod.mk.injEq] at ho'
      obtain ⟨rfl, rfl⟩ := ho'
      rcases k with ⟨k1, k2, _⟩ | ⟨k1, _, k2, _⟩ | ⟨k1, _, k2, _⟩
      · exact .inr (.inr ⟨k1, k2⟩)
      · exact .inr (.inl ⟨k1, k2⟩)
      · exact .inl ⟨k1, k2⟩
theorem zeros_flat (n : Nat) : (List.replicate n zB).flatMap L = List.replicate (64 * n) 0 := by
  induction n with
  | zero => rfl
  | succ n ih =>
    have e : L zB = List.replicate 64 0 := L_list _
    rw [List.replicate_succ, List.flatMap_cons, ih, e, List.replicate_append_replicate]
    congr 1
    omega
theorem zeros_img : (List.replicate 128 zB).flatMap L = dskL [] := zeros_flat 128
theorem zeros_pos : 0 < ((List.replicate 128 zB).flatMap L).length := by rw [zeros_flat, List.length_replicate]; omega

set_option maxRecDepth 100000 in
set_option maxHeartbeats 8000000 in
theorem imaged_walk (jk : ByteArray) (v : Value) (xs : List KAct) (t : ByteArray) (w : World) (_ : jk.size ≤ maxLen) (h : KActsAt w w.heap.size v xs) (hlen : xs.length ≤ 9223372036854775800) (hm : t.size ≤ maxLen) (ht : Tab w) :
    Calls Tryz.prog 7 #[.string jk, v, .string t] w fun e w' => e = .returned (.bool true) ∧ Below w.heap.size w w' := by
  obtain ⟨ao, cap, rfl⟩ : ∃ ao cap, v = .slice ao xs.length cap := by obtain ⟨⟨ao, cap, rfl, _⟩, _⟩ := h; exact ⟨ao, cap, rfl⟩
  have H := hide h
  have Ht := hide ht
  have HT : Hid (∀ w', Below w.heap.size w w' → Tab w') := fun w' hf => (unhide Ht).below hf
  have Hm := hide hm
  clear h ht
  go_enter Tryz.func7, Tryz.ntmps7
  go_wp2_with fail
  refine (ready_any _ (unhide Ht)).mono ?_
  rintro e w1 ⟨q, p, rfl, _, hb1⟩
  have Hb1 := hide hb1
  have hsz1 := hb1.size
  clear hb1
  go_wp2_with fail
  refine (empty_any _).mono ?_
  rintro e w2 ⟨pd, rfl, hd2, hb2⟩
  have Hd2 := hide hd2
  have Hb2 := hide ((unhide Hb1).then' hsz1 hb2)
  have hsz2 := (unhide Hb2).size
  clear hd2 hb2
  go_wp2_with fail
  refine (dimage_any w1.heap.size pd (List.replicate 128 zB) w2 (unhide Hd2) (fun s hs => by rw [List.eq_of_mem_replicate hs]; decide) (by rw [List.length_replicate]; omega) zeros_pos).mono ?_
  rintro e w3 ⟨u3, rfl, hu3, hb3⟩
  have Hb3 := hide ((unhide Hb2).then' hsz2 hb3)
  have hsz3 := (unhide Hb3).size
  rw [zeros_img] at hu3
  have Hu3 := hide hu3
  clear hu3 hb3
  go_wp2_with fail
  refine (mount_any u3 w3).mono ?_
  have hlm := Log.nil.mount (by simp)
  rintro e w4 ⟨h4, hb4⟩
  rw [unhide Hu3, hlm.1] at h4
  have h4' := h4.resolve_left (fun h => h.1 hlm.2)
  obtain ⟨_, p4, rfl, hl4⟩ := h4'
  have Hl4 := hide hl4.led
  have Hb4 := hide ((unhide Hb3).then' hsz3 hb4)
  have hsz4 := (unhide Hb4).size
  clear hlm h4 hl4 hb4
  go_wp2_with fail
  refine (blank_any _).mono ?_
  rintro e w5 ⟨q5, rfl, hr5, hb5⟩
  have Hr5 := hide hr5
  have Hl5 := hide ((unhide Hl4).kept hb5)
  have Hb5 := hide ((unhide Hb4).then' hsz4 hb5)
  have hsz5 := (unhide Hb5).size
  clear hr5 hb5
  go_wp2_with fail
  refine (tells_any w4.heap.size w3.heap.size q5 p4 bk0 w5 (unhide Hr5) (unhide Hl5) (unhide HT _ (unhide Hb5))).mono ?_
  rintro e w6 ⟨rfl, hb6⟩
  have Hb6 := hide ((unhide Hb5).then' hsz5 hb6)
  have hsz6 := (unhide Hb6).size
  clear hb6
  go_wp2_with fail
  refine (mount_any jk w6).mono ?_
  rintro e w7 ⟨h7, hb7⟩
  have Hb7 := hide ((unhide Hb6).then' hsz6 hb7)
  have hsz7 := (unhide Hb7).size
  clear hb7
  have hne : ((jk.size : Int) != 8192) = true ∧ e = .returned (.tuple #[.pointer none, .int .i64 18]) ∨ ((jk.size : Int) != 8192) = false ∧ ∃ o er, e = .returned (.tuple #[.pointer o, .int .i64 er]) := by
    by_cases hs : jk.size = 8192
    · refine .inr ⟨by simp [hs], ?_⟩
      rcases h7 with ⟨_, h⟩ | ⟨_, p, h, _⟩
      · exact ⟨_, _, h⟩
      · exact ⟨_, _, h⟩
    · refine .inl ⟨by simp; omega, ?_⟩
      rcases h7 with ⟨_, h⟩ | ⟨h, _⟩
      · exact h
      · exact absurd h.1 (by rw [L_length]; exact hs)
  clear h7
  have hmk := run_makeU 8192 (by omega) w7
  obtain ⟨g, hg⟩ : ∃ g, w7.heap.size = g := ⟨_, rfl⟩
  obtain ⟨W, hW⟩ : ∃ W, w7.alloc (.cells (madeCells #[.int .u8 0] 8192) 5) = W := ⟨_, rfl⟩
  rw [hg, hW] at hmk
  rw [hg] at hsz7
  have HB : Hid (Blk W g (madeCells #[.int .u8 0] 8192) 5) := by rw [← hW, ← hg]; exact Blk.new _ _ _
  have HbW : Hid (Below w.heap.size w W) := by rw [← hW]; exact (unhide Hb7).alloc (by omega) _
  have hWs : W.heap.size = g + 1 := by rw [← hW, ← hg]; simp
  have hmk2 : (Instr.makeSlice 64 (.int .i64 8192) (.int .i64 8192)).run Tryz.prog w7 = .ok (.slice (some ⟨g, 0, none⟩) 8192 8192) W := hmk
  clear hmk hW
  have Hcopy : Hid (∀ (w8 : World), w8.heap[g]? = some (.cells (cellsU ((L jk).take 8192) ++ (madeCells #[.int .u8 0] 8192).toList.drop (cellsU ((L jk).take 8192)).length).toArray 5 (0, 0)) → ∃ (u : ByteArray), (convert 64 9 (.slice (some ⟨g, 0, none⟩) 8192 8192)).run Tryz.prog w8 = .ok (.string u) w8) := by
    intro w8 h8
    have hk : (cellsU ((L jk).take 8192)).length ≤ 8192 := by rw [cellsU_length, List.length_take]; omega
    have e1 : cellsU ((L jk).take 8192) ++ (madeCells #[.int .u8 0] 8192).toList.drop (cellsU ((L jk).take 8192)).length = cellsU ((L jk).take 8192 ++ List.replicate (8192 - ((L jk).take 8192).length) 0) := by
      rw [made_zeroU, cellsU_length]
      unfold cellsU
      rw [List.map_append, ← List.map_drop, List.drop_replicate]
    have e2 : ((L jk).take 8192 ++ List.replicate (8192 - ((L jk).take 8192).length) (0 : UInt8)).length = 8192 := by
      rw [List.length_append, List.length_replicate, List.length_take]; omega
    rw [e1] at h8
    obtain ⟨l, hl⟩ : ∃ l, (L jk).take 8192 ++ List.replicate (8192 - ((L jk).take 8192).length) (0 : UInt8) = l := ⟨_, rfl⟩
    rw [hl] at h8 e2
    have h9 := owns_new (w := w8) (B := g) (g := g) (e := 5) (size := 1) (n := 8192) (cs := (cellsU l).toArray) h8 (Nat.le_refl _) (by unfold maxLen; omega) (by rw [List.size_toArray, cellsU_length, e2])
    exact ⟨_, conv_bytes l w8 g _ (by rw [e2]; exact h9) (by omega)⟩
  rcases hne with ⟨hne, rfl⟩ | ⟨hne, o7, er7, rfl⟩
  all_goals
    go_upto_region 12 with fail
    go_upto_region 13 with (first
      | (refine wpList_copyS rfl (.tmp 63) (.tmp 64) 64 9 rfl 5 Tryz.underlying64 (by kernel_rfl) g 8192 8192 jk rfl rfl (madeCells #[.int .u8 0] 8192) 5 (unhide HB) (by rw [size_madeCells]; exact Nat.le_refl _) ?_; intro w8 hg8 ho8 hs8 os8 tp8 ou8; have hcv := unhide Hcopy w8 hg8; obtain ⟨u8, hcv⟩ := hcv; have Hb8 : Hid (Below w.heap.size w w8) := (unhide HbW).trans ⟨os8, tp8, ou8, (by omega), (fun k hk => ho8 k (by omega))⟩; have hsz8 := (unhide Hb8).size; clear hg8 ho8 hs8 os8 tp8 ou8))
    clear Hcopy HB HbW hne
    go_wp2_with fail
    refine (mount_any u8 w8).mono ?_
    rintro e w9 ⟨h9, hb9⟩
    have Hb9 := hide ((unhide Hb8).then' hsz8 hb9)
    have hsz9 := (unhide Hb9).size
    clear hb9 hcv
    rcases h9 with ⟨_, rfl⟩ | ⟨_, p9, rfl, h9⟩
    · go_wp2_with fail
      go_ret
      exact ⟨rfl, unhide Hb9⟩
    · have Hl9 : Hid (LedW w9 w.heap.size p9 (mntS (L u8)).u [] (mntS (L u8)).s) := h9.base hsz8
      obtain ⟨t9, ht9⟩ : ∃ t9 : KS, (⟨(mntS (L u8)).s, (mntS (L u8)).u, []⟩ : KS) = t9 := ⟨_, rfl⟩
      have Hk9 : Hid (LedW w9 w.heap.size p9 t9.u t9.ws t9.s) := by rw [← ht9]; exact unhide Hl9
      clear h9 Hl9 ht9
      go_wp2_with fail
      go_loopg [13] xs.length (fun m i wr => ∃ (j : Nat), j ≤ xs.length ∧ m = xs.length - j ∧ i = .int .i64 j ∧ Hid (∃ t' : KS, LedW wr w.heap.size p9 t'.u t'.ws t'.s) ∧ Hid (Below w.heap.size w wr))
      case atStart => exact ⟨0, by omega, rfl, rfl, ⟨t9, unhide Hk9⟩, unhide Hb9⟩
      case round =>
        obtain ⟨j, hj', rfl, rfl, HL, Hb⟩ := hrel
        have hsz := (unhide Hb).size
        by_cases hlt : j < xs.length
        · obtain ⟨x, hx⟩ : ∃ x, xs[j]? = some x := ⟨xs[j], List.getElem?_eq_getElem hlt⟩
          have hat := (unhide H).below (unhide Hb)
          have hok := hat.oks x (List.mem_of_getElem? hx)
          obtain ⟨⟨ao', cap', e1, hr⟩, _⟩ := hat
          simp only [Value.slice.injEq, true_and] at e1
          obtain ⟨rfl, rfl⟩ := e1
          have hr2 := hr.resolve_left (by rintro rfl; simp at hx)
          obtain ⟨b, off, rfl, hbl, hc⟩ := hr2
          obtain ⟨d0, d1, d2, d3⟩ := hc j x hx
          have hjj : (j : Int) < (xs.length : Int) := by omega
          obtain ⟨⟨s, u, ws⟩, hled⟩ := unhide HL
          obtain ⟨kd, xa, xb, xao, xcap, ls⟩ := x
          simp only at d0 d1 d2 d3 hok hled
          have Hc := hide (calledW_any w.heap.size p9 u ws s kd xa xb xao xcap ls wr hled hok.at' hok.few)
          clear hr hc hx hok hled
          go_wp2_with fail
          refine (unhide Hc).mono ?_
          rintro e w10 ⟨rfl, k1, k2⟩
          have HL10 : Hid (∃ t' : KS, LedW w10 w.heap.size p9 t'.u t'.ws t'.s) := ⟨⟨_, _, _⟩, k1⟩
          have Hb10 : Hid (Below w.heap.size w w10) := (unhide Hb).trans (k2.below hsz)
          clear k1 k2 Hc
          go_wp2_with fail
          go_roundg (xs.length - (j + 1))
          case measure => omega
          case rel => exact ⟨j + 1, by omega, rfl, by go_num, unhide HL10, unhide Hb10⟩
        · obtain rfl : j = xs.length := by omega
          obtain ⟨⟨s, u, ws⟩, hled⟩ := unhide HL
          have HL0 := hide hled.led
          clear hled
          go_wp2_with fail
          refine (dayCheck_any t wr (unhide Hm)).mono ?_
          rintro e w10 ⟨f, pl, rfl, hck, hb10⟩
          have HL10 := hide ((unhide HL0).kept hb10)
          have Hb10 := hide ((unhide Hb).then' hsz hb10)
          have hsz10 := (unhide Hb10).size
          have Hck := hide hck
          clear hb10 hck
          go_wp2_with fail
          refine (dayReport_any w.heap.size p9 s t w10 (unhide HL10) (unhide Hm) (unhide HT _ (unhide Hb10))).mono ?_
          rintro e w11 ⟨ru, gg, rfl, hrp, hb11⟩
          have hfg := chk_rep (unhide Hck) hrp
          have HL11 := hide ((unhide HL10).kept hb11)
          have Hb11 := hide ((unhide Hb10).then' hsz10 hb11)
          have hsz11 := (unhide Hb11).size
          have Hfg := hide hfg
          clear hb11 hrp hfg
          go_wp2_with fail
          refine (dayAccounts_any w.heap.size p9 s w11 (unhide HL11) (unhide HT _ (unhide Hb11))).mono ?_
          rintro e w12 ⟨u12, rfl, hu12, hb12⟩
          have HL12 := hide ((unhide HL11).kept hb12)
          have Hb12 := hide ((unhide Hb11).then' hsz11 hb12)
          have hsz12 := (unhide Hb12).size
          have Hu12 := hide hu12
          clear hb12 hu12
          go_wp2_with fail
          refine (dayAccounts_any w.heap.size p9 s w12 (unhide HL12) (unhide HT _ (unhide Hb12))).mono ?_
          rintro e w13 ⟨u13, rfl, hu13, hb13⟩
          obtain rfl : u13 = u12 := L_inj (hu13.trans (unhide Hu12).symm)
          have Hb13 := hide ((unhide Hb12).then' hsz12 hb13)
          clear hb13 hu13
          rcases unhide Hfg with ⟨rfl, rfl⟩ | ⟨rfl, rfl⟩ | ⟨hf, rfl⟩
          · go_wp2_with fail
            go_ret
            exact ⟨rfl, unhide Hb13⟩
          · go_wp2_with fail
            go_ret
            exact ⟨rfl, unhide Hb13⟩
          · have hf1 : (gg == 0) = false := by simpa using hf
            have hf2 : (gg != 0) = true := by simpa using hf
            go_wp2_with fail
            go_ret
            exact ⟨rfl, unhide Hb13⟩

end Go.Proofs.YtdchbenfccofpabGreatDoor
namespace Go.Proofs.YtdchbenfccofpabGreatDoor
open Go.RowKit Db

/-- The record of a step that is written. -/
def nrm (kd a b : Int) (ls : List Ln) : Rc := if kd = 1 then (1, a, 0, []) else if kd = 2 then (2, a, 0, []) else (3, a, b, ls)
def secA (r : Rc) : ByteArray := ⟨(secR r).toArray⟩
theorem nrm_ok {s : Bk} (hg : BkGood s) {kd a b : Int} {ls : List Ln} (h : clY s kd a b ls = true) : RcOk (nrm kd a b ls) ∧ clX kd a b ls = secA (nrm kd a b ls) ∧ clE s (nrm kd a b ls).1 (nrm kd a b ls).2.1 (nrm kd a b ls).2.2.1 (nrm kd a b ls).2.2.2 = clE s kd a b ls ∧
    clY s (nrm kd a b ls).1 (nrm kd a b ls).2.1 (nrm kd a b ls).2.2.1 (nrm kd a b ls).2.2.2 = true ∧ clX (nrm kd a b ls).1 (nrm kd a b ls).2.1 (nrm kd a b ls).2.2.1 (nrm kd a b ls).2.2.2 = secA (nrm kd a b ls) := by
  have hz : AmtOk 0 := ⟨by omega, by omega⟩
  by_cases h1 : kd = 1
  · subst h1
    have e2 : clY s 1 a b ls = decide ((opn s a).2.1 = 0) := rfl
    rw [e2] at h
    have he : (opn s a).2.1 = 0 := by simpa using h
    have hc := (opn_cnt hg a).resolve_right (fun k => k.1 he)
    exact ⟨⟨.inl rfl, ⟨by show _; simp only [nrm]; simp; omega, by show _; simp only [nrm]; simp; omega⟩, hz, by simp [nrm], by simp [nrm]⟩, rfl, rfl, h, rfl⟩
  by_cases h2 : kd = 2
  · subst h2
    have e2 : clY s 2 a b ls = decide ((cls s a).1 = 0) := rfl
    rw [e2] at h
    have he : (cls s a).1 = 0 := by simpa using h
    have hc := (cls_cnt hg a).resolve_right (fun k => k.1 he)
    exact ⟨⟨.inr (.inl rfl), ⟨by show _; simp only [nrm]; simp; omega, by show _; simp only [nrm]; simp; omega⟩, hz, by simp [nrm], by simp [nrm]⟩, rfl, rfl, h, rfl⟩
  by_cases h3 : kd = 3
  · subst h3
    have e2 : clY s 3 a b ls = isN s a b ls := rfl
    rw [e2] at h
    rcases pst_cnt hg a b ls with ⟨_, _, p0, p1, p2, p3, p4, p5, _⟩ | ⟨h0, _⟩
    · have hfew := hg.few
      exact ⟨⟨.inr (.inr rfl), ⟨by show -_ ≤ a; omega, by show a ≤ _; omega⟩, ⟨by show -_ ≤ b; omega, by show b ≤ _; omega⟩, p4, fun l hl => by have := p5 l hl; exact ⟨⟨by omega, by omega⟩, ⟨by omega, by omega⟩⟩⟩, rfl, rfl, h, rfl⟩
    · rw [h0] at h; cases h
  · have : clY s kd a b ls = false := by unfold clY; rw [if_neg h1, if_neg h2, if_neg h3]
    rw [this] at h; cases h
theorem redo_nrm {t : KS} (hg : BkGood t.s) {x : KAct} (h : clY t.s x.kd x.a x.b x.ls = true) : redoS t (nrm x.kd x.a x.b x.ls) = kstep t x := by
  obtain ⟨_, h2, h3, h4, h5⟩ := nrm_ok hg h
  unfold redoS kstep
  simp only
  rw [h3, h4, h5, h, h2]
/-- Writes of some records, from sector n on. -/
structure WsAt (ws : List Wr) (n : Nat) (rs : List Rc) : Prop where
  len : ws.length = 2 * rs.length
  at0 : ∀ (k : Nat) r, rs[k]? = some r → ws[2 * k]? = some (((n + k : Nat) : Int), secA r)
  at1 : ∀ (k : Nat), k < rs.length → ws[2 * k + 1]? = some (-1, ⟨#[]⟩)
theorem WsAt.nil (n : Nat) : WsAt [] n [] := ⟨rfl, by simp, by simp⟩
theorem WsAt.snoc {ws : List Wr} {n : Nat} {rs : List Rc} (h : WsAt ws n rs) (r : Rc) : WsAt (ws ++ [(((n + rs.length : Nat) : Int), secA r), (-1, ⟨#[]⟩)]) n (rs ++ [r]) := by
  have hl := h.len
  refine ⟨by simp; omega, ?_, ?_⟩
  · intro k x hx
    by_cases hk : k < rs.length
    · rw [List.getElem?_append_left hk] at hx
      rw [List.getElem?_append_left (by omega)]
      exact h.at0 k x hx
    · rw [List.getElem?_append_right (by omega)] at hx
      have hk2 : k = rs.length := by
        have := (List.getElem?_eq_some_iff.1 hx).1
        simp at this; omega
      subst hk2
      simp at hx
      subst hx
      rw [List.getElem?_append_right (by omega), hl]
      simp
  · intro k hk
    simp at hk
    by_cases hk2 : k < rs.length
    · rw [List.getElem?_append_left (by omega)]
      exact h.at1 k hk2
    · obtain rfl : k = rs.length := by omega
      rw [List.getElem?_append_right (by omega), hl]
      simp
/-- A book behind a log of which the last records are not yet told. -/
structure LogW (rs : List Rc) (n : Nat) (t : KS) : Prop where
  log : ∃ t', Log rs t' ∧ t'.s = t.s ∧ t'.u = t.u
  le : n ≤ rs.length
  ws : WsAt t.ws n (rs.drop n)
theorem LogW.good {rs : List Rc} {n : Nat} {t : KS} (h : LogW rs n t) : BkGood t.s ∧ t.u = rs.length := by
  obtain ⟨t', h1, h2, h3⟩ := h.log
  have := h1.facts
  rw [← h2, ← h3]
  exact ⟨this.2.2.2, this.1⟩
theorem LogW.start : LogW [] 0 ⟨bk0, 0, []⟩ := ⟨⟨_, Log.nil, rfl, rfl⟩, Nat.le_refl _, WsAt.nil 0⟩
theorem LogW.step {rs : List Rc} {n : Nat} {t : KS} (h : LogW rs n t) (x : KAct) : (clY t.s x.kd x.a x.b x.ls = true ∧ LogW (rs ++ [nrm x.kd x.a x.b x.ls]) n (kstep t x)) ∨ (clY t.s x.kd x.a x.b x.ls = false ∧ kstep t x = t) := by
  obtain ⟨hg, hu⟩ := h.good
  obtain ⟨t', h1, h2, h3⟩ := h.log
  cases hy : clY t.s x.kd x.a x.b x.ls with
  | false =>
    refine .inr ⟨rfl, ?_⟩
    have hs : (clE t.s x.kd x.a x.b x.ls).2.2 = t.s := by
      rcases clE_more hg x.kd x.a x.b x.ls with ⟨k, _⟩ | ⟨k, _⟩ | ⟨_, k⟩
      · rw [hy] at k; cases k
      · rw [hy] at k; cases k
      · exact k
    unfold kstep
    rw [hy, hs]
    rfl
  | true =>
    refine .inl ⟨rfl, ?_⟩
    obtain ⟨k1, k2, k3, k4, k5⟩ := nrm_ok hg hy
    have hle := h.le
    refine ⟨⟨redoS t' (nrm x.kd x.a x.b x.ls), Log.more h1 k1 (by rw [h2]; exact k4) k5, ?_, ?_⟩, by simp; omega, ?_⟩
    · unfold redoS kstep
      simp only
      rw [h2, k3]
    · unfold redoS kstep
      simp only
      rw [h2, h3, k4, hy]
    · rw [List.drop_append_of_le_length hle]
      have := h.ws.snoc (nrm x.kd x.a x.b x.ls)
      rw [List.length_drop] at this
      rw [show n + (rs.length - n) = rs.length by omega] at this
      unfold kstep
      simp only
      rw [hy, k2, hu]
      exact this
theorem LogW.run {n : Nat} (xs : List KAct) : ∀ {rs : List Rc} {t : KS}, LogW rs n t → ∃ rs', LogW rs' n (krun t xs) := by
  induction xs with
  | nil => intro rs t h; exact ⟨rs, h⟩
  | cons x r ih =>
    intro rs t h
    show ∃ rs', LogW rs' n (krun (kstep t x) r)
    rcases h.step x with ⟨_, h1⟩ | ⟨_, h1⟩
    · exact ih h1
    · rw [h1]; exact ih h
theorem LogW.small {rs : List Rc} {n : Nat} {t : KS} (h : LogW rs n t) : rs.length ≤ 100 := by
  obtain ⟨t', h1, h2, h3⟩ := h.log
  obtain ⟨f1, f2, f3, f4⟩ := h1.facts
  have hb := cnt_bound f4
  have : ∀ {rs : List Rc} {t : KS}, Log rs t → rs.length ≤ cnt t.s := by
    intro rs t h
    induction h with
    | nil => simp
    | @more rs t r hl hr hy hx ih =>
      have hg := hl.facts.2.2.2
      have hc : cnt (redoS t r).s = cnt t.s + 1 := by
        unfold redoS kstep
        simp only
        obtain ⟨kd, a, b, ls⟩ := r
        simp only at hy ⊢
        rcases hr.1 with e | e | e
        · simp only at e; subst e
          have e2 : clY t.s 1 a b ls = decide ((opn t.s a).2.1 = 0) := rfl
          rw [e2] at hy
          exact ((opn_cnt hg a).resolve_right (fun k => k.1 (by simpa using hy))).2.2.2
        · simp only at e; subst e
          have e2 : clY t.s 2 a b ls = decide ((cls t.s a).1 = 0) := rfl
          rw [e2] at hy
          exact ((cls_cnt hg a).resolve_right (fun k => k.1 (by simpa using hy))).2.2.2
        · simp only at e; subst e
          have e2 : clY t.s 3 a b ls = isN t.s a b ls := rfl
          rw [e2] at hy
          rcases pst_cnt hg a b ls with k | ⟨k, _⟩
          · exact k.2.2.2.2.2.2.2.2.2
          · rw [k] at hy; cases hy
      simp only [List.length_append, List.length_singleton]
      rw [hc]
      omega
  have := this h1
  omega
/-- A keeper's disk that holds these records. -/
def dskS (rs : List Rc) : List ByteArray := rs.map secA ++ List.replicate (128 - rs.length) zB
theorem dskS_len {rs : List Rc} (h : rs.length ≤ 128) : (dskS rs).length = 128 := by unfold dskS; simp; omega
theorem dskS_flat {rs : List Rc} (h : rs.length ≤ 128) : (dskS rs).flatMap L = dskL rs := by
  unfold dskS dskL
  rw [List.flatMap_append, zeros_flat]
  congr 1
  · induction rs with
    | nil => rfl
    | cons r t ih =>
      have : t.length ≤ 128 := by simp at h; omega
      rw [List.map_cons, List.flatMap_cons, List.flatMap_cons, ih this]
      congr 1
  · congr 1; omega
theorem dskS_set {rs : List Rc} {m : Nat} {r : Rc} (hr : rs[m]? = some r) (hm : rs.length ≤ 128) : (dskS (rs.take m)).set m (secA r) = dskS (rs.take (m + 1)) := by
  have hlt := (List.getElem?_eq_some_iff.1 hr).1
  unfold dskS
  rw [List.take_add_one, hr]
  have e1 : ((rs.take m).map secA).length = m := by simp; omega
  have e2 : List.replicate (128 - (rs.take m).length) zB = zB :: List.replicate (128 - (rs.take m ++ (some r).toList).length) zB := by
    rw [← List.replicate_succ]
    congr 1
    simp; omega
  rw [e2, List.set_append_right _ _ (by omega), e1]
  simp
/-- Where the last flush ahead of a crash stands; the sectors behind it. -/
def flF (ws : List Wr) : Nat → Nat
  | 0 => 0
  | i + 1 => match ws[i]? with
    | some x => if x.1 = -1 then i else flF ws i
    | none => flF ws i
def crF (ws : List Wr) (fl : Nat) (ch : Nat → Bool) (ss : List ByteArray) : Nat → List ByteArray
  | 0 => ss
  | i + 1 => match ws[i]? with
    | some x => if 0 ≤ x.1 ∧ (i < fl ∨ ch (i - fl) = true) then (crF ws fl ch ss i).set x.1.toNat x.2 else crF ws fl ch ss i
    | none => crF ws fl ch ss i
theorem flF_ws {ws : List Wr} {n : Nat} {rs : List Rc} (h : WsAt ws n rs) : ∀ i, i ≤ ws.length → flF ws i = 2 * (i / 2) - 1 := by
  have hl := h.len
  intro i
  induction i with
  | zero => intro _; rfl
  | succ i ih =>
    intro hi
    have ih := ih (by omega)
    obtain ⟨k, hk | hk⟩ : ∃ k, i = 2 * k ∨ i = 2 * k + 1 := ⟨i / 2, by omega⟩
    · subst hk
      obtain ⟨r, hr⟩ : ∃ r, rs[k]? = some r := ⟨rs[k]'(by omega), List.getElem?_eq_getElem _⟩
      have h0 := h.at0 k r hr
      unfold flF
      rw [h0]
      simp only
      rw [if_neg (by omega), ih]
      omega
    · subst hk
      have h1 := h.at1 k (by omega)
      unfold flF
      rw [h1]
      simp only [if_true]
      omega
/-- All writes are kept. -/
theorem crF_keep {ws : List Wr} {n : Nat} {all : List Rc} (h : WsAt ws n (all.drop n)) (hn : n ≤ all.length) (hm : all.length ≤ 128) (fl : Nat) (ch : Nat → Bool) : ∀ i, i ≤ ws.length → (∀ k, 2 * k < i → 2 * k < fl ∨ ch (2 * k - fl) = true) → crF ws fl ch (dskS (all.take n)) i = dskS (all.take (n + (i + 1) / 2)) := by
  have hl := h.len
  rw [List.length_drop] at hl
  intro i
  induction i with
  | zero => intro _ _; rfl
  | succ i ih =>
    intro hi hk
    have ih := ih (by omega) (fun k h => hk k (by omega))
    obtain ⟨k, he | he⟩ : ∃ k, i = 2 * k ∨ i = 2 * k + 1 := ⟨i / 2, by omega⟩
    · subst he
      obtain ⟨r, hr⟩ : ∃ r, (all.drop n)[k]? = some r := ⟨(all.drop n)[k]'(by rw [List.length_drop]; omega), List.getElem?_eq_getElem _⟩
      have h0 := h.at0 k r hr
      rw [List.getElem?_drop] at hr
      unfold crF
      rw [h0]
      simp only
      rw [if_pos ⟨by omega, hk k (by omega)⟩, ih, Int.toNat_natCast, show n + (2 * k + 1) / 2 = n + k by omega, dskS_set hr hm, show n + (2 * k + 1 + 1) / 2 = n + k + 1 by omega]
    · subst he
      have h1 := h.at1 k (by rw [List.length_drop]; omega)
      unfold crF
      rw [h1]
      simp only
      rw [if_neg (by rintro ⟨h, _⟩; omega), ih]
      congr 2
      omega
/-- What a crash leaves: the records whose flush stands ahead of it, and, between a write and its flush, perhaps that one too. -/
theorem crF_crash {ws : List Wr} {n : Nat} {all : List Rc} (h : WsAt ws n (all.drop n)) (hn : n ≤ all.length) (hm : all.length ≤ 128) (ch : Nat → Bool) (c : Nat) (hc : c ≤ ws.length) :
    crF ws (flF ws c) ch (dskS (all.take n)) c = dskS (all.take (n + c / 2)) ∨ (c % 2 = 1 ∧ crF ws (flF ws c) ch (dskS (all.take n)) c = dskS (all.take (n + c / 2 + 1))) := by
  have hfl := flF_ws h c hc
  have hl := h.len
  rw [List.length_drop] at hl
  rw [hfl]
  rcases Nat.mod_two_eq_zero_or_one c with h0 | h0
  · left
    rw [crF_keep h hn hm _ ch c hc (fun k hk => .inl (by omega))]
    congr 2
    omega
  · obtain ⟨j, rfl⟩ : ∃ j, c = 2 * j + 1 := ⟨c / 2, by omega⟩
    have hp := crF_keep h hn hm (2 * ((2 * j + 1) / 2) - 1) ch (2 * j) (by omega) (fun k hk => .inl (by omega))
    obtain ⟨r, hr⟩ : ∃ r, (all.drop n)[j]? = some r := ⟨(all.drop n)[j]'(by rw [List.length_drop]; omega), List.getElem?_eq_getElem _⟩
    have hw := h.at0 j r hr
    rw [List.getElem?_drop] at hr
    unfold crF
    rw [hw]
    simp only
    split
    · right
      refine ⟨h0, ?_⟩
      rw [hp, Int.toNat_natCast, show n + (2 * j + 1) / 2 = n + j by omega, dskS_set hr hm]
    · left
      rw [hp]
theorem crF_all {ws : List Wr} {n : Nat} {all : List Rc} (h : WsAt ws n (all.drop n)) (hn : n ≤ all.length) (hm : all.length ≤ 128) (ch : Nat → Bool) (hch : ∀ k, ch k = true) (fl : Nat) : crF ws fl ch (dskS (all.take n)) ws.length = dskS all := by
  have hl := h.len
  rw [List.length_drop] at hl
  rw [crF_keep h hn hm fl ch ws.length (Nat.le_refl _) (fun k _ => .inr (hch _)), List.take_of_length_le (by omega)]
end Go.Proofs.YtdchbenfccofpabGreatDoor
namespace Go.Proofs.YtdchbenfccofpabGreatDoor
open Go.RowKit Db

theorem tot_le (m : Nat) (l : List (List UInt8)) (h : ∀ x ∈ l, x.length ≤ m) : tot l ≤ l.length * m := by
  induction l with
  | nil => simp [tot]
  | cons x r ih =>
    have h1 := h x (by simp)
    have h2 := ih (fun y hy => h y (by simp [hy]))
    unfold tot at h2 ⊢
    simp only [List.map_cons, List.sum_cons, List.length_cons]
    rw [Nat.add_mul]
    omega
theorem accT_sz {s : Bk} (h : BkGood s) : (accT s).length ≤ 500 := by
  unfold accT
  rw [jn_len]
  have hl : (accL s).length ≤ 15 := by unfold accL; have := h.few; simp; omega
  have := tot_le 22 (accL s) (by
    intro x hx
    unfold accL at hx
    rw [List.mem_map] at hx
    obtain ⟨c, hc, rfl⟩ := hx
    have hp := h.par c (List.mem_of_mem_drop hc)
    have := Lib.itoa_length_le c.1 (by omega) (by omega)
    unfold acT
    rw [List.length_append]
    split <;> simp <;> omega)
  omega
theorem jrT_sz {s : Bk} (h : BkGood s) : (jrT s).length ≤ 30000 := by
  unfold jrT
  rw [jn_len]
  have hl : (jrL s).length ≤ 64 := by unfold jrL; have := h.posts; simp; omega
  have := tot_le 300 (jrL s) (by
    intro x hx
    unfold jrL at hx
    rw [List.mem_map] at hx
    obtain ⟨t, ht, rfl⟩ := hx
    have hk := good_ok h ht
    have h1 := prT_size (a := t.1) (b := t.2.1) (by have := hk.id; omega) (by have := hk.id; omega) (by have := hk.day; omega) (by have := hk.day; omega)
    have h2 : ∀ l : List Ln, (∀ x ∈ l, 0 < x.1 ∧ x.1 < 16 ∧ -1000000000000 ≤ x.2 ∧ x.2 ≤ 1000000000000) → (lnT l).length ≤ l.length * 44 := by
      intro l
      induction l with
      | nil => intro _; simp [lnT]
      | cons y r ih =>
        intro hy
        have i1 := ih (fun x hx => hy x (by simp [hx]))
        have i2 := hy y (by simp)
        have i3 := prT_size (a := y.1) (b := y.2) (by omega) (by omega) (by omega) (by omega)
        unfold lnT at i1 ⊢
        simp only [List.flatMap_cons, List.length_append, List.length_cons]
        omega
    have h3 := h2 t.2.2 hk.lns
    have h4 := hk.few
    unfold txT
    rw [List.length_append]
    omega)
  omega
/-- What is a write or a flush. -/
def PrOk (ws : List Wr) : Prop := ∀ x ∈ ws, (x.1 = -1 ∧ x.2 = ⟨#[]⟩) ∨ (0 ≤ x.1 ∧ x.1 < 128 ∧ x.2.size = 64)
theorem secA_size {r : Rc} (h : RcOk r) : (secA r).size = 64 := by unfold secA; rw [size_L, L_list, secR_len h]
theorem WsAt.pr {ws : List Wr} {n : Nat} {rs : List Rc} (h : WsAt ws n rs) (hok : ∀ r ∈ rs, RcOk r) (hl : n + rs.length ≤ 128) : PrOk ws := by
  intro x hx
  obtain ⟨i, hi⟩ := List.getElem?_of_mem hx
  have hlt := (List.getElem?_eq_some_iff.1 hi).1
  have hlen := h.len
  obtain ⟨k, hk | hk⟩ : ∃ k, i = 2 * k ∨ i = 2 * k + 1 := ⟨i / 2, by omega⟩
  · subst hk
    obtain ⟨r, hr⟩ : ∃ r, rs[k]? = some r := ⟨rs[k]'(by omega), List.getElem?_eq_getElem _⟩
    rw [h.at0 k r hr] at hi
    simp only [Option.some.injEq] at hi
    subst hi
    exact .inr ⟨by simp only; omega, by simp only; omega, secA_size (hok r (List.mem_of_getElem? hr))⟩
  · subst hk
    rw [h.at1 k (by omega)] at hi
    simp only [Option.some.injEq] at hi
    subst hi
    exact .inl ⟨rfl, rfl⟩

set_option maxRecDepth 100000 in
set_option maxHeartbeats 2000000 in
theorem proper_any (B : Nat) (ao : Option Addr) (cap : Nat) (ws : List Wr) (w : World) (h : w.ownsRow B 96 2 (.slice ao ws.length cap) ws.length (cellsW ws)) (hp : PrOk ws) (hl : ws.length ≤ 100000) :
    Calls Tryz.prog 24 #[.slice ao ws.length cap] w fun e w' => e = .returned (.bool true) ∧ Below w.heap.size w w' := by
  have H := hide h
  have Hp := hide hp
  clear h hp
  go_enter Tryz.func24, Tryz.ntmps24
  go_wp2_with fail
  go_loopg [3] ws.length (fun m i wr => ∃ j : Nat, j ≤ ws.length ∧ m = ws.length - j ∧ i = .int .i64 j ∧ Hid (Below w.heap.size w wr))
  case atStart => exact ⟨0, by omega, rfl, rfl, Below.refl _ _⟩
  case round =>
    obtain ⟨j, hj, rfl, rfl, Hb⟩ := hrel
    by_cases hlt : j < ws.length
    · obtain ⟨⟨x1, x2⟩, hx⟩ : ∃ x, ws[j]? = some x := ⟨ws[j], List.getElem?_eq_getElem hlt⟩
      have hro := ownsRow_below (unhide H) (unhide Hb)
      obtain ⟨g, _, e1, hg, hg'⟩ := ownsRow_some hro (by omega)
      simp only [Value.slice.injEq, true_and] at e1
      obtain ⟨rfl, rfl⟩ := e1
      have h2 := two_get (fun a : Wr => Value.int .i64 a.1) (fun a => .string a.2) ws j _ hx
      have d1 := ownsRow_cell hro (j := j * 2) h2.1
      have d2 := ownsRow_cell hro (j := j * 2 + 1) h2.2
      have hor := unhide Hp _ (List.mem_of_getElem? hx)
      simp only at d1 d2 hor
      clear hro h2 hx
      rcases hor with ⟨rfl, rfl⟩ | ⟨o1, o2, o3⟩
      · go_wp2_with fail
        go_roundg (ws.length - (j + 1))
        case measure => omega
        case rel => exact ⟨j + 1, by omega, rfl, by go_num, unhide Hb⟩
      · have n1 : (x1 == -1) = false := by rw [beq_eq_false_iff_ne]; omega
        have n2 : ((x2.size : Int) == 64) = true := by rw [o3]; rfl
        go_wp2_with fail
        go_roundg (ws.length - (j + 1))
        case measure => omega
        case rel => exact ⟨j + 1, by omega, rfl, by go_num, unhide Hb⟩
    · obtain rfl : j = ws.length := by omega
      go_wp2_with fail
      go_ret
      exact ⟨rfl, unhide Hb⟩

/-- Whether a write that is not flushed is kept. -/
def chF (keep : Int) (k : Nat) : Bool := bits .and .i64 (keep / 2 ^ (k % 60)) 1 == 1
theorem chF_all {keep : Int} (h : keep = -1) (k : Nat) : chF keep k = true := by
  subst h
  unfold chF
  have hp : (0 : Int) < 2 ^ (k % 60) := Int.pow_pos (by decide)
  have e : (-1 : Int) / 2 ^ (k % 60) = -1 := by
    obtain ⟨m, hm⟩ : ∃ m : Int, 2 ^ (k % 60) = m := ⟨_, rfl⟩
    rw [hm] at hp ⊢
    have h1 : -m ≤ -1 := by omega
    have h2 := Int.le_ediv_of_mul_le hp (show -1 * m ≤ -1 by omega)
    have h3 := Int.ediv_lt_of_lt_mul hp (show -1 < 0 * m by omega)
    omega
  rw [e]
  rfl
theorem crF_len (ws : List Wr) (fl : Nat) (ch : Nat → Bool) (ss : List ByteArray) : ∀ k, (crF ws fl ch ss k).length = ss.length := by
  intro k
  induction k with
  | zero => rfl
  | succ k ih =>
    unfold crF
    split
    · split
      · rw [List.length_set]; exact ih
      · exact ih
    · exact ih
theorem dsk_set {w : World} {B p g cap : Nat} {ss : List ByteArray} (hB : B ≤ p) (hb : Blk w p #[.slice (some ⟨g, 0, none⟩) ss.length cap] 94) (ho : w.ownsRow B 9 1 (.slice (some ⟨g, 0, none⟩) ss.length cap) ss.length (ss.map Value.string)) (n : Nat) (x : ByteArray) :
    DskAt (w.setCell ⟨g, n, none⟩ (.string x)) B p (ss.set n x) ∧ FrT B [9] w (w.setCell ⟨g, n, none⟩ (.string x)) := by
  have ht := ownsRow_tg ho g rfl
  have f1 : FrT B [9] w (w.setCell ⟨g, n, none⟩ (.string x)) := (FrT.refl _ _ w).setCell (T := 9) (by simp) ht.2 ht.1 _
  refine ⟨⟨hB, _, hb.frT f1 (by decide), ?_⟩, f1⟩
  rw [List.length_set, List.map_set]
  exact own_set ho _

set_option maxRecDepth 100000 in
set_option maxHeartbeats 4000000 in
theorem crash_any (B Bl p : Nat) (ss : List ByteArray) (ao : Option Addr) (cap : Nat) (ws : List Wr) (c : Nat) (keep : Int) (w : World) (hd : DskAt w B p ss) (hss : ss.length = 128) (h : w.ownsRow Bl 96 2 (.slice ao ws.length cap) ws.length (cellsW ws)) (hp : PrOk ws) (hl : ws.length ≤ 100000) (hc : c ≤ ws.length) :
    Calls Tryz.prog 25 #[.pointer (some ⟨p, 0, none⟩), .slice ao ws.length cap, .int .i64 c, .int .i64 keep] w fun e w' => e = .returned (.tuple #[]) ∧ (∃ ch : Nat → Bool, (keep = -1 → ∀ k, ch k = true) ∧ DskAt w' B p (crF ws (flF ws c) ch ss c)) ∧ FrT B [9] w w' := by
  have H := hide h
  have Hp := hide hp
  have Hd := hide hd
  clear h hp hd
  go_enter Tryz.func25, Tryz.ntmps25
  go_wp2_with fail
  go_loopg [8, 9] c (fun m vf i wr => ∃ j : Nat, j ≤ c ∧ m = c - j ∧ i = .int .i64 j ∧ vf = .int .i64 (flF ws j : Nat) ∧ flF ws j ≤ j ∧ wr = w)
  case atStart => exact ⟨0, by omega, rfl, rfl, rfl, Nat.le_refl _, rfl⟩
  case round =>
    obtain ⟨j, hj, rfl, rfl, rfl, hfj, hwr⟩ := hrel
    obtain rfl := hwr.symm
    by_cases hlt : j < c
    · obtain ⟨⟨x1, x2⟩, hx⟩ : ∃ x, ws[j]? = some x := ⟨ws[j]'(by omega), List.getElem?_eq_getElem _⟩
      obtain ⟨g, _, e1, hg, hg'⟩ := ownsRow_some (unhide H) (by omega)
      simp only [Value.slice.injEq, true_and] at e1
      obtain ⟨rfl, rfl⟩ := e1
      have h2 := two_get (fun a : Wr => Value.int .i64 a.1) (fun a => .string a.2) ws j _ hx
      have d1 := ownsRow_cell (unhide H) (j := j * 2) h2.1
      have hfl : flF ws (j + 1) = if x1 = -1 then j else flF ws j := by
        show (match ws[j]? with | some x => if x.1 = -1 then j else flF ws j | none => flF ws j) = _
        rw [hx]
      simp only at d1
      clear h2 hx
      by_cases hx1 : x1 = -1
      · subst hx1
        rw [if_pos rfl] at hfl
        have Hfl := hide hfl
        clear hfl
        go_wp2_with fail
        go_roundg (c - (j + 1))
        case measure => omega
        case rel => exact ⟨j + 1, by omega, rfl, by go_num, by rw [unhide Hfl], by rw [unhide Hfl]; omega, rfl⟩
      · rw [if_neg hx1] at hfl
        have n1 : (x1 == -1) = false := by rw [beq_eq_false_iff_ne]; exact hx1
        have Hfl := hide hfl
        clear hfl
        go_wp2_with fail
        go_roundg (c - (j + 1))
        case measure => omega
        case rel => exact ⟨j + 1, by omega, rfl, by go_num, by rw [unhide Hfl], by rw [unhide Hfl]; omega, rfl⟩
    · obtain rfl : j = c := by omega
      obtain ⟨fl, hfl⟩ : ∃ fl, flF ws j = fl := ⟨_, rfl⟩
      rw [hfl] at hfj ⊢
      have hfj' : (0 : Int) ≤ (fl : Int) := by omega
      go_wp2_with fail
      go_loopg [10] j (fun m vi wr => ∃ k : Nat, k ≤ j ∧ m = j - k ∧ vi = .int .i64 k ∧ Hid (DskAt wr B p (crF ws fl (chF keep) ss k)) ∧ Hid (FrT B [9] w wr))
      case atStart => exact ⟨0, by omega, rfl, rfl, unhide Hd, FrT.refl _ _ _⟩
      case round =>
        obtain ⟨k, hk, rfl, rfl, HD, HF⟩ := hrel
        by_cases hlt2 : k < j
        · obtain ⟨⟨x1, x2⟩, hx⟩ : ∃ x, ws[k]? = some x := ⟨ws[k]'(by omega), List.getElem?_eq_getElem _⟩
          have hro := ownsRow_frT (unhide H) (unhide HF) (by decide)
          obtain ⟨g, _, e1, hg, hg'⟩ := ownsRow_some hro (by omega)
          simp only [Value.slice.injEq, true_and] at e1
          obtain ⟨rfl, rfl⟩ := e1
          have h2 := two_get (fun a : Wr => Value.int .i64 a.1) (fun a => .string a.2) ws k _ hx
          have d1 := ownsRow_cell hro (j := k * 2) h2.1
          have d2 := ownsRow_cell hro (j := k * 2 + 1) h2.2
          have hor := unhide Hp _ (List.mem_of_getElem? hx)
          have hcr : crF ws fl (chF keep) ss (k + 1) = if 0 ≤ x1 ∧ (k < fl ∨ chF keep (k - fl) = true) then (crF ws fl (chF keep) ss k).set x1.toNat x2 else crF ws fl (chF keep) ss k := by
            show (match ws[k]? with | some x => if 0 ≤ x.1 ∧ (k < fl ∨ chF keep (k - fl) = true) then (crF ws fl (chF keep) ss k).set x.1.toNat x.2 else crF ws fl (chF keep) ss k | none => crF ws fl (chF keep) ss k) = _
            rw [hx]
          simp only at d1 d2 hor
          clear h2 hx hro
          rcases hor with ⟨rfl, rfl⟩ | ⟨o1, o2, o3⟩
          · have Hcr : Hid (crF ws fl (chF keep) ss (k + 1) = crF ws fl (chF keep) ss k) := by show _ = _; rw [hcr, if_neg (by rintro ⟨h, _⟩; omega)]
            clear hcr
            go_wp2_with fail
            go_roundg (j - (k + 1))
            case measure => omega
            case rel => exact ⟨k + 1, by omega, rfl, by go_num, by show DskAt _ _ _ _; rw [unhide Hcr]; exact unhide HD, unhide HF⟩
          · obtain ⟨n, rfl⟩ : ∃ n : Nat, x1 = n := ⟨x1.toNat, by omega⟩
            by_cases hkeep : k < fl ∨ chF keep (k - fl) = true
            · have hcl := crF_len ws fl (chF keep) ss k
              obtain ⟨hBp, vs, hblk, hos⟩ := unhide HD
              rw [hcl] at hos
              obtain ⟨g2, cap2, rfl, hg2, hg2'⟩ := ownsRow_some hos (by omega)
              have c0 := hblk.cell 0
              simp only [List.getElem?_toArray, List.getElem?_cons_zero] at c0
              have zf := ownsRow_frozen hos n
              obtain ⟨yn, hyn⟩ : ∃ y, (crF ws fl (chF keep) ss k)[n]? = some y := ⟨(crF ws fl (chF keep) ss k)[n]'(by omega), List.getElem?_eq_getElem _⟩
              have dn := ownsRow_cell hos (j := n) (u := .string yn) (by rw [List.getElem?_map, hyn]; rfl)
              clear hyn
              have hst := dsk_set hBp (by rw [hcl]; exact hblk) (by rw [hcl]; exact hos) n x2
              have Hst : Hid (DskAt (wr.setCell ⟨g2, n, none⟩ (.string x2)) B p (crF ws fl (chF keep) ss (k + 1)) ∧ FrT B [9] wr (wr.setCell ⟨g2, n, none⟩ (.string x2))) := by
                show _ ∧ _
                rw [hcr, if_pos ⟨by omega, hkeep⟩, Int.toNat_natCast]
                exact hst
              have hlq := hblk.lt
              have hn128 : (n : Int) < (ss.length : Int) := by omega
              clear hcr hst hos hblk hcl
              by_cases hkf : k < fl
              · have hkf' : ¬ fl ≤ k := by omega
                clear hkeep
                go_upto_region 11 with fail
                go_region
                all_goals
                  go_wp2_with fail
                  go_roundg (j - (k + 1))
                  case measure => omega
                  case rel => exact ⟨k + 1, by omega, rfl, by go_num, (unhide Hst).1.kept ((Below.refl _ _).drewN _), ((unhide HF).trans (unhide Hst).2).drewN _⟩
              · have hch : (bits .and .i64 (keep / 2 ^ ((k - fl) % 60)) 1 == 1) = true := by
                  have := hkeep.resolve_left hkf
                  exact this
                have hkf' : fl ≤ k := by omega
                clear hkeep
                go_upto_region 11 with fail
                go_region
                all_goals
                  go_wp2_with fail
                  go_roundg (j - (k + 1))
                  case measure => omega
                  case rel => exact ⟨k + 1, by omega, rfl, by go_num, (unhide Hst).1.kept ((Below.refl _ _).drewN _), ((unhide HF).trans (unhide Hst).2).drewN _⟩
            · have Hcr : Hid (crF ws fl (chF keep) ss (k + 1) = crF ws fl (chF keep) ss k) := by show _ = _; rw [hcr, if_neg (by rintro ⟨_, h⟩; exact hkeep h)]
              have hkf' : fl ≤ k := by omega
              have hch : (bits .and .i64 (keep / 2 ^ ((k - fl) % 60)) 1 == 1) = false := by
                cases hx : chF keep (k - fl) with
                | false => exact hx
                | true => exact absurd (.inr hx) hkeep
              clear hcr hkeep
              go_wp2_with fail
              go_roundg (j - (k + 1))
              case measure => omega
              case rel => exact ⟨k + 1, by omega, rfl, by go_num, by show DskAt _ _ _ _; rw [unhide Hcr]; exact unhide HD, unhide HF⟩
        · obtain rfl : k = j := by omega
          go_wp2_with fail
          go_end0
          exact ⟨rfl, ⟨chF keep, chF_all, by rw [hfl]; exact unhide HD⟩, unhide HF⟩
end Go.Proofs.YtdchbenfccofpabGreatDoor
namespace Go.Proofs.YtdchbenfccofpabGreatDoor
open Go.RowKit Db

/-- The records that some acts leave. -/
def logR (t : KS) : List KAct → List Rc
  | [] => []
  | x :: r => (if clY t.s x.kd x.a x.b x.ls = true then [nrm x.kd x.a x.b x.ls] else []) ++ logR (kstep t x) r
theorem logR_app (xs ys : List KAct) : ∀ t, logR t (xs ++ ys) = logR t xs ++ logR (krun t xs) ys := by
  induction xs with
  | nil => intro t; rfl
  | cons x r ih =>
    intro t
    show (if _ then _ else _) ++ logR (kstep t x) (r ++ ys) = _
    rw [ih]
    show _ = ((if _ then _ else _) ++ logR (kstep t x) r) ++ logR (krun (kstep t x) r) ys
    rw [List.append_assoc]
theorem LogW.runR {n : Nat} (xs : List KAct) : ∀ {rs : List Rc} {t : KS}, LogW rs n t → LogW (rs ++ logR t xs) n (krun t xs) := by
  induction xs with
  | nil => intro rs t h; show LogW (rs ++ []) n t; rw [List.append_nil]; exact h
  | cons x r ih =>
    intro rs t h
    show LogW (rs ++ ((if _ then _ else _) ++ logR (kstep t x) r)) n (krun (kstep t x) r)
    rcases h.step x with ⟨h1, h2⟩ | ⟨h1, h2⟩
    · rw [if_pos h1, ← List.append_assoc]
      exact ih h2
    · rw [if_neg (by rw [h1]; simp), List.nil_append, h2]
      exact ih h
/-- One act more. -/
theorem logR_step {t : KS} {xs : List KAct} {j : Nat} {x : KAct} (h : xs[j]? = some x) : logR t (xs.take (j + 1)) = logR t (xs.take j) ++ (if clY (krun t (xs.take j)).s x.kd x.a x.b x.ls = true then [nrm x.kd x.a x.b x.ls] else []) := by
  rw [List.take_add_one, h]
  simp only [Option.toList]
  rw [logR_app]
  simp [logR]
theorem logR_prefix (t : KS) (xs : List KAct) (j : Nat) : ∃ z, logR t xs = logR t (xs.take j) ++ z := by
  refine ⟨logR (krun t (xs.take j)) (xs.drop j), ?_⟩
  rw [← logR_app, List.take_append_drop]
theorem logR_take {t : KS} {xs : List KAct} {j : Nat} (rs : List Rc) {m : Nat} (hm : m = (logR t (xs.take j)).length) : (rs ++ logR t xs).take (rs.length + m) = rs ++ logR t (xs.take j) := by
  obtain ⟨z, hz⟩ := logR_prefix t xs j
  rw [hz, ← List.append_assoc, List.take_append_of_le_length (by simp; omega), List.take_of_length_le (by simp; omega)]
/-- How many writes there are behind some acts. -/
theorem ends_len {rs : List Rc} {t : KS} (h : LogW rs rs.length t) (xs : List KAct) (j : Nat) : (krun t (xs.take j)).ws.length = 2 * (logR t (xs.take j)).length := by
  have := (h.runR (xs.take j)).ws.len
  rw [List.length_drop, List.length_append] at this
  omega
theorem dkW_app (y : Bool) (u : Nat) (x : ByteArray) (ws : List Wr) : dkW y u x ws = ws ++ dkW y u x [] := by unfold dkW; cases y <;> simp
theorem kstep_ws (t : KS) (x : KAct) : (kstep t x).ws = t.ws ++ dkW (clY t.s x.kd x.a x.b x.ls) t.u (clX x.kd x.a x.b x.ls) [] := by
  unfold kstep
  simp only
  rw [dkW_app]
/-- A step that is written changes what is told. -/
theorem acT_pos (c : Ac) : 1 ≤ (acT c).length := by
  have h : 1 ≤ (Lib.itoa c.1).length := by
    unfold Lib.itoa
    split
    · simp
    · exact List.length_pos_iff.2 (dec_facts _).2.2.1
  unfold acT
  rw [List.length_append]; omega
theorem told_diff {s : Bk} (hg : BkGood s) {kd a b : Int} {ls : List Ln} (hy : clY s kd a b ls = true) : accT (clE s kd a b ls).2.2 ≠ accT s ∨ jrT (clE s kd a b ls).2.2 ≠ jrT s := by
  by_cases h1 : kd = 1
  · subst h1
    have e1 : clE s 1 a b ls = opn s a := rfl
    have e2 : clY s 1 a b ls = decide ((opn s a).2.1 = 0) := rfl
    rw [e2] at hy
    obtain ⟨k, c, rfl, hc, hcc, h16, e3⟩ := opn_yes (of_decide_eq_true hy)
    left
    rw [e1, e3]
    intro h
    have h2 := congrArg List.length h
    have hone := hg.one
    have e4 : accL { s with acs := s.acs ++ [((k : Int), false)] } = accL s ++ [acT ((k : Int), false)] := by
      unfold accL
      rw [List.drop_append_of_le_length hone, List.map_append]
      rfl
    unfold accT at h2
    rw [jn_len, jn_len, e4] at h2
    have h3 := acT_pos ((k : Int), false)
    unfold tot at h2
    simp only [List.map_append, List.sum_append, List.length_append, List.map_cons, List.map_nil, List.sum_cons, List.sum_nil, List.length_cons, List.length_nil] at h2
    omega
  by_cases h2 : kd = 2
  · subst h2
    rcases clE_more hg 2 a b ls with ⟨_, h3⟩ | ⟨_, _, h3⟩ | ⟨h3, _⟩
    · have e1 : clE s 2 a b ls = (0, (cls s a).1, (cls s a).2) := rfl
      have e2 : clY s 2 a b ls = decide ((cls s a).1 = 0) := rfl
      rw [e2] at hy
      obtain ⟨k, c, rfl, hc, h0, hcc, e3⟩ := cls_yes (of_decide_eq_true hy)
      rw [e1, e3] at h3
      simp at h3
    · exact .inl h3
    · rw [hy] at h3; cases h3
  by_cases h3 : kd = 3
  · subst h3
    have e1 : clE s 3 a b ls = (0, (pst s a b ls).1, (pst s a b ls).2) := rfl
    have e2 : clY s 3 a b ls = isN s a b ls := rfl
    rw [e2] at hy
    right
    rcases pst_cnt hg a b ls with ⟨_, _, _, _, _, _, _, _, i2, _⟩ | ⟨i1, _⟩
    · rw [e1]
      simp only
      rw [i2]
      intro h
      have h2 := congrArg List.length h
      have e4 : jrL { s with txs := s.txs ++ [(a, b, ls)] } = jrL s ++ [txT (a, b, ls)] := by unfold jrL; simp
      unfold jrT at h2
      rw [jn_len, jn_len, e4] at h2
      have h4 : 1 ≤ (txT (a, b, ls)).length := by unfold txT prT; simp; omega
      unfold tot at h2
      simp only [List.map_append, List.sum_append, List.length_append, List.map_cons, List.map_nil, List.sum_cons, List.sum_nil, List.length_cons, List.length_nil] at h2
      omega
    · rw [i1] at hy; cases hy
  · have : clY s kd a b ls = false := by unfold clY; rw [if_neg h1, if_neg h2, if_neg h3]
    rw [this] at hy; cases hy

set_option maxRecDepth 100000 in
set_option maxHeartbeats 2000000 in
/-- A record of another state: the book does not tell it. -/
theorem tellsNo_any (B B' q p : Nat) (s s' : Bk) (w : World) (h : Rec w B q s) (hl : Led w B' p s') (ht : Tab w) (hne : accT s' ≠ accT s ∨ jrT s' ≠ jrT s) :
    Calls Tryz.prog 28 #[.pointer (some ⟨q, 0, none⟩), .pointer (some ⟨p, 0, none⟩)] w fun e w' => e = .returned (.bool false) ∧ Below w.heap.size w w' := by
  have H := hide h
  have Ht := hide ht
  have Hl : Hid (∀ wx, Below w.heap.size w wx → Led wx B' p s') := by
    intro wx hb
    obtain ⟨va, vt, tv, dk, h1⟩ := hl
    exact ⟨_, _, _, _, h1.kept hb⟩
  clear h ht hl
  go_enter Tryz.func28, Tryz.ntmps28
  go_wp2_with fail
  refine (dayAccounts_any B' p s' _ (unhide Hl _ (Below.refl _ _)) (unhide Ht)).mono ?_
  rintro e w1 ⟨u1, rfl, hu1, hb1⟩
  have Hb1 := hide hb1
  have Hu1 := hide hu1
  clear hb1 hu1
  go_wp2_with fail
  refine (dayJournal_any B' p s' _ (unhide Hl _ (unhide Hb1)) ((unhide Ht).below (unhide Hb1))).mono ?_
  rintro e w2 ⟨u2, rfl, hu2, hb2⟩
  have Hb2 := hide ((unhide Hb1).then hb2)
  have Hu2 := hide hu2
  clear hb2 hu2
  go_wp2_with fail
  refine (recAccounts_any B q s _ ((unhide H).kept (unhide Hb2)) ((unhide Ht).below (unhide Hb2))).mono ?_
  rintro e w3 ⟨u3, rfl, hu3, hb3⟩
  have Hu3 := hide hu3
  have Hb3 := hide ((unhide Hb2).then hb3)
  clear hb3 hu3
  go_wp2_with fail
  refine (recJournal_any B q s _ ((unhide H).kept (unhide Hb3)) ((unhide Ht).below (unhide Hb3))).mono ?_
  rintro e w4 ⟨u4, rfl, hu4, hb4⟩
  have Hb4 := hide ((unhide Hb3).then hb4)
  by_cases hA : u1 = u3
  · have hJ : ¬ u2 = u4 := by
      intro e
      rcases hne with h | h
      · exact h (by rw [← unhide Hu1, hA, unhide Hu3])
      · exact h (by rw [← unhide Hu2, e, hu4])
    subst hA
    have hJ' : (u2.toList == u4.toList) = false := by rw [beq_eq_false_iff_ne, ByteArray.toList_eq, ByteArray.toList_eq]; exact fun e => hJ (L_inj e)
    clear hb4 hu4 hne
    go_wp2_with fail
    go_ret
    exact ⟨rfl, unhide Hb4⟩
  · have hA' : (u1.toList == u3.toList) = false := by rw [beq_eq_false_iff_ne, ByteArray.toList_eq, ByteArray.toList_eq]; exact fun e => hA (L_inj e)
    clear hb4 hu4 hne
    go_wp2_with fail
    go_ret
    exact ⟨rfl, unhide Hb4⟩
end Go.Proofs.YtdchbenfccofpabGreatDoor
namespace Go.RowKit

structure FrX (X : Nat → Prop) (B : Nat) (Ts : List TypeId) (w w' : World) : Prop where
  fr : FrT B Ts w w'
  keep : ∀ k, X k → k < w.heap.size → w'.heap[k]? = w.heap[k]?
section
variable {X : Nat → Prop} {B : Nat} {Ts : List TypeId} {a b c w w' : World}
theorem FrX.refl (B : Nat) (Ts : List TypeId) (w : World) : FrX X B Ts w w := ⟨FrT.refl _ _ _, fun _ _ _ => rfl⟩
theorem FrX.trans (h : FrX X B Ts a b) (k : FrX X B Ts b c) : FrX X B Ts a c :=
  ⟨h.fr.trans k.fr, fun i hi hl => (k.keep i hi (Nat.lt_of_lt_of_le hl h.fr.size)).trans (h.keep i hi hl)⟩
theorem FrX.mono {Us : List TypeId} (h : FrX X B Ts a b) (hs : ∀ T ∈ Ts, T ∈ Us) : FrX X B Us a b := ⟨h.fr.mono hs, h.keep⟩
theorem FrX.of_below (h : Below a.heap.size a b) : FrX X B Ts a b := ⟨FrT.of_below h, fun k _ hk => h.block k hk⟩
theorem FrX.then (h : FrX X B Ts a b) (k : Below b.heap.size b c) : FrX X B Ts a c := h.trans (FrX.of_below k)
theorem FrX.drew (h : FrX X B Ts a b) : FrX X B Ts a b.drew := ⟨h.fr.drew, h.keep⟩
theorem FrX.alloc (h : FrX X B Ts a b) (o : Obj) : FrX X B Ts a (b.alloc o) := h.then ((Below.refl _ _).alloc (Nat.le_refl _) _)
theorem FrX.setCell (h : FrX X B Ts a b) {p : Addr} {T : TypeId} (hT : T ∈ Ts) (hg : Tg b p.block T) (hp : B ≤ p.block) (hx : ¬ X p.block) (u : Value) : FrX X B Ts a (b.setCell p u) :=
  h.trans ⟨(FrT.refl _ _ _).setCell hT hg hp u, fun k hk _ => Below.heap_setCell _ _ _ _ (by rintro rfl; exact hx hk)⟩
theorem FrX.grown {row : Option Nat} {T : TypeId} (h : FrX X B Ts a b) (hg : b.grownBy c row) (hT : T ∈ Ts) (hr : ∀ k, row = some k → B ≤ k ∧ Tg b k T) (hx : ∀ k, row = some k → ¬ X k) : FrX X B Ts a c :=
  h.trans ⟨(FrT.refl _ _ _).grown hg hT hr, fun k hk hl => hg.block k hl (fun e => hx k e.symm hk)⟩
end
end Go.RowKit
namespace Go.Proofs.YtdchbenfccofpabGreatDoor
open Go.RowKit Db

structure LedAx (X : Nat → Prop) (w : World) (B p : Nat) (va vt : Value) (tv : List (Tn × Value)) (d : Dk) (s : Bk) : Prop extends LedAt w B p va vt tv d s where
  xp : ¬ X p
  xa : ∀ k, va.ownBlock = some k → ¬ X k
  xt : ∀ k, vt.ownBlock = some k → ¬ X k
  xw : ∀ k, d.vw.ownBlock = some k → ¬ X k
  top : ∀ k, X k → k < w.heap.size
def LedDx (X : Nat → Prop) (w : World) (B p : Nat) (d : Dk) (s : Bk) : Prop := ∃ va vt tv, LedAx X w B p va vt tv d s
def LedWx (X : Nat → Prop) (w : World) (B p u : Nat) (ws : List Wr) (s : Bk) : Prop := ∃ va vt tv vw, LedAx X w B p va vt tv ⟨u, vw, ws⟩ s
theorem LedWx.ledW {X : Nat → Prop} {w : World} {B p u : Nat} {ws : List Wr} {s : Bk} (h : LedWx X w B p u ws s) : LedW w B p u ws s := by obtain ⟨va, vt, tv, vw, h⟩ := h; exact ⟨va, vt, tv, vw, h.toLedAt⟩
theorem LedDx.led {X : Nat → Prop} {w : World} {B p : Nat} {d : Dk} {s : Bk} (h : LedDx X w B p d s) : Led w B p s := by obtain ⟨va, vt, tv, h⟩ := h; exact ⟨va, vt, tv, d, h.toLedAt⟩
theorem LedAx.keptX {X : Nat → Prop} {w w' : World} {B p : Nat} {va vt : Value} {tv : List (Tn × Value)} {d : Dk} {s : Bk} (h : LedAx X w B p va vt tv d s) (hb : Below w.heap.size w w') : LedAx X w' B p va vt tv d s :=
  ⟨h.toLedAt.kept hb, h.xp, h.xa, h.xt, h.xw, fun k hk => Nat.lt_of_lt_of_le (h.top k hk) hb.size⟩
/-- A book whose blocks are kept. -/
theorem LedAt.keptF {X : Nat → Prop} {w w' : World} {B B' p : Nat} {va vt : Value} {tv : List (Tn × Value)} {d : Dk} {s : Bk} (h : LedAt w B p va vt tv d s) (hf : FrX X B' tP w w') (hp : X p) (ha : ∀ k, va.ownBlock = some k → X k) (ht : ∀ k, vt.ownBlock = some k → X k) (hw : ∀ k, d.vw.ownBlock = some k → X k) : LedAt w' B p va vt tv d s := by
  have own : ∀ {e : TypeId} {size : Nat} {v : Value} {n : Nat} {xs : List Value}, w.ownsRow B e size v n xs → (∀ k, v.ownBlock = some k → X k) → w'.ownsRow B e size v n xs := by
    intro e size v n xs ho hx
    refine ⟨ho.1, ?_⟩
    rcases ho.2 with hn | ⟨g, cap, cur, rfl, hbg, hgg, rest⟩
    · exact .inl hn
    · refine .inr ⟨g, cap, cur, rfl, hbg, ?_, rest⟩
      rw [hf.keep g (hx g rfl) (Array.getElem?_eq_some_iff.1 hgg).1]
      exact hgg
  refine ⟨?_, h.lo, own h.acs ha, ⟨own h.txs.own ht, fun x hx => ownsRow_frT (h.txs.lns x hx) hf.fr (by decide)⟩, h.jr, h.good, own h.dsk hw, h.dlen, h.dcnt⟩
  have hl := h.blk.lt
  have hb := h.blk
  unfold Blk at hb ⊢
  rw [hf.keep p hp hl]; exact hb
theorem fresh_not {X : Nat → Prop} {w : World} {v v' : Value} {n : Nat} (top : ∀ k, X k → k < w.heap.size) (hx : ∀ k, v.ownBlock = some k → ¬ X k) (hn : w.heap.size ≤ n) (hat : v'.ownBlock = v.ownBlock ∨ v'.ownBlock = some n) : ∀ k, v'.ownBlock = some k → ¬ X k := by
  intro k hk hX
  rcases hat with e | e
  · exact hx k (by rw [← e]; exact hk) hX
  · rw [hk] at e
    simp only [Option.some.injEq] at e
    have := top k hX
    omega

end Go.Proofs.YtdchbenfccofpabGreatDoor
namespace Go.Proofs.YtdchbenfccofpabGreatDoor
open Go.RowKit Db

/-- One account more. -/
theorem LedAx.more {X : Nat → Prop} {w w5 : World} {B p : Nat} {va va' vt : Value} {tv : List (Tn × Value)} {d : Dk} {s s' : Bk} (h : LedAx X w B p va vt tv d s) (o : Obj) (hgr : (w.alloc o).grownBy w5 va.ownBlock) (hblk : Blk w5 p #[va, vt, .int .i64 d.u, d.vw] 82)
    (hown : w5.ownsRow B 130 2 va' s'.acs.length (cellsA s'.acs)) (hs : s'.txs = s.txs) (hg : BkGood s') (hcn : cnt s ≤ cnt s') (hat : va'.ownBlock = va.ownBlock ∨ va'.ownBlock = some (w.alloc o).heap.size) :
    LedAx X (w5.setCell ⟨p, 0, none⟩ va') B p va' vt tv d s' ∧ FrX X B tP w (w5.setCell ⟨p, 0, none⟩ va') := by
  have f1 : FrX X B [130] w w5 := ((FrX.refl _ _ w).alloc o).grown hgr (T := 130) (by simp) (fun k hk => ⟨(ownsRow_tg h.acs k hk).1, tg_alloc (ownsRow_tg h.acs k hk).2 o⟩) h.xa
  have f2 : FrX X B [82] w5 (w5.setCell ⟨p, 0, none⟩ va') := (FrX.refl _ _ w5).setCell (T := 82) (by simp) hblk.tg h.lo h.xp _
  refine ⟨⟨⟨?_, h.lo, ownsRow_frT hown f2.fr (by decide), (h.txs.frT f1.fr (by decide) (by decide)).frT f2.fr (by decide) (by decide), by rw [hs]; exact h.jr, hg, ownsRow_frT (ownsRow_frT h.dsk f1.fr (by decide)) f2.fr (by decide), h.dlen, Nat.le_trans h.dcnt hcn⟩, h.xp, fresh_not h.top h.xa (by simp) hat, h.xt, h.xw, fun k hk => Nat.lt_of_lt_of_le (h.top k hk) (Nat.le_trans f1.fr.size f2.fr.size)⟩, ?_⟩
  · have := hblk.set 0 va'
    simpa using this
  · exact (f1.mono (by simp [tP])).trans (f2.mono (by simp [tP]))


set_option maxRecDepth 100000 in
set_option maxHeartbeats 2000000 in
theorem ledOpenX_any (X : Nat → Prop) (B p : Nat) (d : Dk) (s : Bk) (a : Int) (w : World) (h : LedDx X w B p d s) :
    Calls Tryz.prog 66 #[.pointer (some ⟨p, 0, none⟩), .int .i64 a] w fun e w' => e = .returned (.tuple #[.int .i64 (opn s a).1, .int .i64 (opn s a).2.1]) ∧ LedDx X w' B p d (opn s a).2.2 ∧ FrX X B tP w w' := by
  obtain ⟨va, vt, tv, h⟩ := h
  obtain ⟨ii, hi, hz0, hz1, hz2⟩ := info_parts info_account
  obtain ⟨g, cap, rfl, hg, hg'⟩ := ownsRow_some h.acs h.good.one
  have c0 := h.blk.cell 0
  have z0 := h.blk.frozen 0
  have hlp := h.blk.lt
  simp only [List.getElem?_toArray, List.getElem?_cons_zero] at c0
  have hfew := h.good.few
  have H := hide h
  by_cases hin : a < 0 ∨ (s.acs.length : Int) ≤ a
  · have hr := opn_none (ther_no hin)
    rw [hr]
    clear h hr
    by_cases hneg : a < 0
    · go_enter Tryz.func66, Tryz.ntmps66
      go_wp2_with fail
      go_ret2
      exact ⟨rfl, ⟨_, _, _, unhide H⟩, FrX.refl _ _ _⟩
    · have hge : (s.acs.length : Int) ≤ a := by omega
      go_enter Tryz.func66, Tryz.ntmps66
      go_wp2_with fail
      go_ret2
      exact ⟨rfl, ⟨_, _, _, unhide H⟩, FrX.refl _ _ _⟩
  · obtain ⟨k, rfl⟩ : ∃ k : Nat, a = k := ⟨a.toNat, by omega⟩
    have hk : k < s.acs.length := by omega
    obtain ⟨c, hc⟩ := acs_get hk
    have dd := ownsRow_cell h.acs (j := k * 2 + 1) (two_get (fun a : Ac => Value.int .i64 a.1) (fun a => .bool a.2) s.acs k c hc).2
    have ht := ther_nat hk
    have hcl := clsd_at hc
    clear h hin
    cases hcc : c.2 with
    | true =>
      rw [hcc] at dd hcl
      rw [opn_shut ht hcl]
      clear ht hcl hc
      go_enter Tryz.func66, Tryz.ntmps66
      go_wp2_with fail
      go_ret2
      exact ⟨rfl, ⟨_, _, _, unhide H⟩, FrX.refl _ _ _⟩
    | false =>
      rw [hcc] at dd hcl
      by_cases hf : 16 ≤ s.acs.length
      · rw [opn_full ht hcl hf]
        clear ht hcl hc
        go_enter Tryz.func66, Tryz.ntmps66
        go_wp2_with fail
        go_ret2
        exact ⟨rfl, ⟨_, _, _, unhide H⟩, FrX.refl _ _ _⟩
      · have hok := opn_ok ht hcl hf
        have Hgood : Hid (BkGood { s with acs := s.acs ++ [((k : Int), false)] }) := by
          have := BkGood.opn (unhide H).good (k : Int)
          rw [hok] at this
          exact this
        rw [hok]
        clear ht hcl hc hok
        go_enter Tryz.func66, Tryz.ntmps66
        go_wp2_with (first
          | (at_builtin; refine wpList_append_own_at _ rfl (.tmp 33) (.tmp 36) 75 rfl B 130 ii (.agg #[.int .i64 0, .bool false]) 2 16 Tryz.underlying75 hi hz0 hz1 hz2 rfl (by decide) (.slice (some ⟨g, 0, none⟩) s.acs.length cap) s.acs.length _ rfl ((unhide H).acs.alloc _) ⟨w.heap.size, 0, none⟩ 1 1 [.int .i64 (k : Int), .bool false] rfl rfl (new2 _ _ (by simp) _ _ _) (fun x hx => by simp at hx; rcases hx with rfl | rfl <;> rfl) (by unfold maxLen; omega) (by omega) (by simp; omega) ?_; intro vq' w5 hown5 hgr5 _ hat5; obtain ⟨gf, cf, rfl, hgf, hgf'⟩ := ownsRow_some hown5 (Nat.succ_pos _); have hblk5 := ((unhide H).blk.alloc _).grown hgr5 (blk_own_ne (unhide H).blk (unhide H).acs (by decide)); have c5 := hblk5.cell 0; have z5 := hblk5.frozen 0; have l5 := hblk5.lt; simp only [List.getElem?_toArray, List.getElem?_cons_zero] at c5; have Hblk5 := hide hblk5; have Hown5 := hide hown5; have Hgr5 := hide hgr5; have Hat5 := hide hat5; clear hblk5 hown5 hgr5 hat5))
        go_ret2
        have hfin := (unhide H).more _ (unhide Hgr5) (unhide Hblk5) (s' := { s with acs := s.acs ++ [((k : Int), false)] }) (by simpa [cellsA] using unhide Hown5) rfl (unhide Hgood) (by rw [cnt_more (unhide H).good rfl]; omega) (unhide Hat5)
        exact ⟨rfl, ⟨_, _, _, hfin.1⟩, hfin.2⟩


theorem LedAx.shut {X : Nat → Prop} {w : World} {B p g cap k : Nat} {vt : Value} {tv : List (Tn × Value)} {d : Dk} {s : Bk} {c : Ac} (h : LedAx X w B p (.slice (some ⟨g, 0, none⟩) s.acs.length cap) vt tv d s) (hc : s.acs[k]? = some c) (hg : BkGood { s with acs := s.acs.set k (c.1, true) }) (hcn : cnt s ≤ cnt { s with acs := s.acs.set k (c.1, true) }) :
    LedAx X (w.setCell ⟨g, k * 2 + 1, none⟩ (.bool true)) B p (.slice (some ⟨g, 0, none⟩) s.acs.length cap) vt tv d { s with acs := s.acs.set k (c.1, true) } ∧ FrX X B tP w (w.setCell ⟨g, k * 2 + 1, none⟩ (.bool true)) := by
  have ht := ownsRow_tg h.acs g rfl
  have f1 : FrX X B [130] w (w.setCell ⟨g, k * 2 + 1, none⟩ (.bool true)) := (FrX.refl _ _ w).setCell (T := 130) (by simp) ht.2 ht.1 (h.xa g rfl) _
  refine ⟨⟨⟨h.blk.frT f1.fr (by decide), h.lo, ?_, h.txs.frT f1.fr (by decide) (by decide), h.jr, hg, ownsRow_frT h.dsk f1.fr (by decide), h.dlen, Nat.le_trans h.dcnt hcn⟩, h.xp, h.xa, h.xt, h.xw, fun k hk => Nat.lt_of_lt_of_le (h.top k hk) f1.fr.size⟩, f1.mono (by simp [tP])⟩
  simp only [List.length_set]
  rw [cellsA_shut hc]
  exact own_set h.acs _


set_option maxRecDepth 100000 in
set_option maxHeartbeats 2000000 in
theorem ledCloseX_any (X : Nat → Prop) (B p : Nat) (d : Dk) (s : Bk) (a : Int) (w : World) (h : LedDx X w B p d s) :
    Calls Tryz.prog 68 #[.pointer (some ⟨p, 0, none⟩), .int .i64 a] w fun e w' => e = .returned (.int .i64 (cls s a).1) ∧ LedDx X w' B p d (cls s a).2 ∧ FrX X B tP w w' := by
  have Hho := hide (hasOpen_any B p s a w h.led)
  have Hbal : Hid (∀ wx, Led wx B p s → Calls Tryz.prog 88 #[.pointer (some ⟨p, 0, none⟩), .int .i64 a, .int .i64 0, .int .i64 999] wx fun e w' => ∃ c, e = .returned (.agg #[.int .i64 (balT a s.txs), .int .i64 c]) ∧ Below wx.heap.size wx w') := by
    intro wx hx
    refine (alone_any B p s a 0 999 wx hx).mono ?_
    rintro e w1 ⟨rfl, hb⟩
    have hgood : BkGood s := by obtain ⟨_, _, _, h⟩ := h; exact h.good
    refine ⟨(aloneM s a 0 999).2, ?_, hb⟩
    rw [show (aloneM s a 0 999).1 = balT a s.txs from tkT_bal a s.txs (fun t ht => ⟨(hgood.tx t ht).2.2.1, (hgood.tx t ht).2.2.2.1⟩)]
  obtain ⟨va, vt, tv, h⟩ := h
  obtain ⟨g, cap, rfl, hg, hg'⟩ := ownsRow_some h.acs h.good.one
  have c0 := h.blk.cell 0
  have hlp := h.blk.lt
  simp only [List.getElem?_toArray, List.getElem?_cons_zero] at c0
  have hfew := h.good.few
  have H := hide h
  by_cases hin : a ≤ 0 ∨ (s.acs.length : Int) ≤ a
  · rw [cls_none (by by_cases h0 : a = 0; exact .inr h0; exact .inl (ther_no (by omega)))]
    clear h
    by_cases hneg : a ≤ 0
    · go_enter Tryz.func68, Tryz.ntmps68
      go_wp2_with fail
      go_ret
      exact ⟨rfl, ⟨_, _, _, unhide H⟩, FrX.refl _ _ _⟩
    · have hge : (s.acs.length : Int) ≤ a := by omega
      go_enter Tryz.func68, Tryz.ntmps68
      go_wp2_with fail
      go_ret
      exact ⟨rfl, ⟨_, _, _, unhide H⟩, FrX.refl _ _ _⟩
  · obtain ⟨k, rfl⟩ : ∃ k : Nat, a = k := ⟨a.toNat, by omega⟩
    have hk : k < s.acs.length := by omega
    have hk0 : ¬ (k : Int) = 0 := by omega
    obtain ⟨c, hc⟩ := acs_get hk
    have d := ownsRow_cell h.acs (j := k * 2 + 1) (two_get (fun a : Ac => Value.int .i64 a.1) (fun a => .bool a.2) s.acs k c hc).2
    have ht := ther_nat hk
    have hcl := clsd_at hc
    have hle : ¬ (k : Int) ≤ 0 := by omega
    clear h hin
    cases hcc : c.2 with
    | true =>
      rw [hcc] at d hcl
      rw [cls_shut ht hk0 hcl]
      clear ht hcl hc
      go_enter Tryz.func68, Tryz.ntmps68
      go_wp2_with fail
      go_ret
      exact ⟨rfl, ⟨_, _, _, unhide H⟩, FrX.refl _ _ _⟩
    | false =>
      rw [hcc] at d hcl
      cases ho : opb (k : Int) s.acs with
      | true =>
        rw [ho] at Hho
        rw [cls_open ht hk0 hcl ho]
        clear ht hcl hc ho
        go_enter Tryz.func68, Tryz.ntmps68
        go_wp2_with fail
        refine (unhide Hho).mono ?_
        rintro e w1 ⟨rfl, hb1⟩
        have Hb1 := hide hb1
        clear hb1
        go_wp2_with fail
        go_ret
        exact ⟨rfl, ⟨_, _, _, (unhide H).keptX (unhide Hb1)⟩, FrX.of_below (unhide Hb1)⟩
      | false =>
        rw [ho] at Hho
        by_cases hbal : balT (k : Int) s.txs = 0
        · have hok := cls_ok ht hk0 hcl ho hbal hc
          have Hgood : Hid (BkGood { s with acs := s.acs.set k (c.1, true) }) := by
            have := BkGood.cls (unhide H).good (k : Int)
            rw [hok] at this
            exact this
          rw [hok]
          rw [hbal] at Hbal
          have Hc := hide hc
          clear ht hcl hc ho hok hbal
          go_enter Tryz.func68, Tryz.ntmps68
          go_wp2_with fail
          refine (unhide Hho).mono ?_
          rintro e w1 ⟨rfl, hb1⟩
          have H1 := hide ((unhide H).keptX hb1)
          have Hb1 := hide hb1
          clear hb1
          go_wp2_with fail
          refine (unhide Hbal _ ⟨_, _, _, _, (unhide H1).toLedAt⟩).mono ?_
          rintro e w2 ⟨cc, rfl, hb2⟩
          have H2 := hide ((unhide H1).keptX hb2)
          have Hb2 := hide ((unhide Hb1).then hb2)
          have c2 := (unhide H2).blk.cell 0
          simp only [List.getElem?_toArray, List.getElem?_cons_zero] at c2
          have z2 := ownsRow_frozen (unhide H2).acs (k * 2 + 1)
          have d2 := ownsRow_cell (unhide H2).acs (j := k * 2 + 1) (two_get (fun a : Ac => Value.int .i64 a.1) (fun a => .bool a.2) s.acs k c (unhide Hc)).2
          have hgl : g < w2.heap.size := by have := (unhide Hb2).size; omega
          have hpl2 : p < w2.heap.size := by have := (unhide Hb2).size; omega
          clear hb2
          go_wp2_with fail
          go_ret
          have hfin := (unhide H2).shut (unhide Hc) (unhide Hgood) (by rw [cnt_shut (unhide Hc)]; omega)
          have hal := (Below.refl _ (w2.setCell ⟨g, k * 2 + 1, none⟩ (.bool true))).alloc (Nat.le_refl _) (.cells #[.int .i64 0, .int .i64 cc] 170)
          exact ⟨rfl, ⟨_, _, _, hfin.1.keptX hal⟩, ((FrX.of_below (unhide Hb2)).trans hfin.2).then hal⟩
        · rw [cls_bal ht hk0 hcl ho hbal]
          obtain ⟨b, hb⟩ : ∃ b, balT (k : Int) s.txs = b := ⟨_, rfl⟩
          rw [hb] at Hbal hbal
          have hbe : (b == 0) = false := by simpa using hbal
          clear ht hcl hc ho hb
          go_enter Tryz.func68, Tryz.ntmps68
          go_wp2_with fail
          refine (unhide Hho).mono ?_
          rintro e w1 ⟨rfl, hb1⟩
          have H1 := hide ((unhide H).keptX hb1)
          have Hb1 := hide hb1
          clear hb1
          go_wp2_with fail
          refine (unhide Hbal _ ⟨_, _, _, _, (unhide H1).toLedAt⟩).mono ?_
          rintro e w2 ⟨cc, rfl, hb2⟩
          have H2 := hide ((unhide H1).keptX hb2)
          have Hb2 := hide ((unhide Hb1).then hb2)
          clear hb2
          go_wp2_with fail
          go_ret
          have hal := (Below.refl _ w2).alloc (Nat.le_refl _) (.cells #[.int .i64 b, .int .i64 cc] 170)
          exact ⟨rfl, ⟨_, _, _, (unhide H2).keptX hal⟩, (FrX.of_below (unhide Hb2)).then hal⟩


end Go.Proofs.YtdchbenfccofpabGreatDoor
namespace Go.Proofs.YtdchbenfccofpabGreatDoor
open Go.RowKit Db

/-- One transaction more. -/
theorem LedAx.post {X : Nat → Prop} {w w5 : World} {B p : Nat} {va vt vt' v2 : Value} {tv : List (Tn × Value)} {d : Dk} {s s' : Bk} {t : Tn} (h : LedAx X w B p va vt tv d s) (o : Obj) (hv : w.ownsRow B 84 2 v2 t.2.2.length (cellsL t.2.2)) (hgr : (w.alloc o).grownBy w5 vt.ownBlock) (hblk : Blk w5 p #[va, vt, .int .i64 d.u, d.vw] 82)
    (hown : w5.ownsRow B 136 3 vt' (tv.length + 1) (cellsT (tv ++ [(t, v2)]))) (hs : s'.txs = s.txs ++ [t]) (ha : s'.acs = s.acs) (hg : BkGood s') (hcn : cnt s ≤ cnt s') (hat : vt'.ownBlock = vt.ownBlock ∨ vt'.ownBlock = some (w.alloc o).heap.size) :
    LedAx X (w5.setCell ⟨p, 1, none⟩ vt') B p va vt' (tv ++ [(t, v2)]) d s' ∧ FrX X B tP w (w5.setCell ⟨p, 1, none⟩ vt') := by
  have f1 : FrX X B [136] w w5 := ((FrX.refl _ _ w).alloc o).grown hgr (T := 136) (by simp) (fun k hk => ⟨(ownsRow_tg h.txs.own k hk).1, tg_alloc (ownsRow_tg h.txs.own k hk).2 o⟩) h.xt
  have f2 : FrX X B [82] w5 (w5.setCell ⟨p, 1, none⟩ vt') := (FrX.refl _ _ w5).setCell (T := 82) (by simp) hblk.tg h.lo h.xp _
  refine ⟨⟨⟨?_, h.lo, ?_, ⟨?_, ?_⟩, ?_, hg, ownsRow_frT (ownsRow_frT h.dsk f1.fr (by decide)) f2.fr (by decide), h.dlen, Nat.le_trans h.dcnt hcn⟩, h.xp, h.xa, fresh_not h.top h.xt (by simp) hat, h.xw, fun k hk => Nat.lt_of_lt_of_le (h.top k hk) (Nat.le_trans f1.fr.size f2.fr.size)⟩, (f1.mono (by simp [tP])).trans (f2.mono (by simp [tP]))⟩
  · have := hblk.set 1 vt'
    simpa using this
  · rw [ha]; exact ownsRow_frT (ownsRow_frT h.acs f1.fr (by decide)) f2.fr (by decide)
  · have := ownsRow_frT hown f2.fr (by decide)
    simpa using this
  · intro x hx
    rcases List.mem_append.1 hx with hx | hx
    · exact ownsRow_frT (ownsRow_frT (h.txs.lns x hx) f1.fr (by decide)) f2.fr (by decide)
    · simp only [List.mem_singleton] at hx
      subst hx
      exact ownsRow_frT (ownsRow_frT hv f1.fr (by decide)) f2.fr (by decide)
  · rw [hs, ← h.jr]; simp


set_option maxRecDepth 100000 in
set_option maxHeartbeats 4000000 in
theorem ledPostX_any (X : Nat → Prop) (B p : Nat) (s : Bk) (id day : Int) (v : Value) (ls : List Ln) (w : World) (va vt : Value) (tv : List (Tn × Value)) (d : Dk) (h : LedAx X w B p va vt tv d s) (hl : LinesAt w v ls) :
    Calls Tryz.prog 69 #[.pointer (some ⟨p, 0, none⟩), .int .i64 id, .int .i64 day, v] w fun e w' => e = .returned (.tuple #[.bool (isN s id day ls), .int .i64 (pst s id day ls).1]) ∧ LedDx X w' B p d (pst s id day ls).2 ∧ FrX X B tP w w' := by
  obtain ⟨ao, cap, rfl⟩ := hl.form
  obtain ⟨ii, hi, hz0, hz1, hz2⟩ := info_parts info_line
  obtain ⟨jj, hj, hy0, hy1, hy2⟩ := info_parts info_tx
  have H := hide h
  have Hl := hide hl
  by_cases hid : id < 0 ∨ 9999 < id
  · rw [isN_no (by rw [pst_id hid]), pst_id hid]
    clear h hl
    by_cases hneg : id < 0
    · go_enter Tryz.func69, Tryz.ntmps69
      go_wp2_with fail
      go_ret2
      exact ⟨rfl, ⟨_, _, _, unhide H⟩, FrX.refl _ _ _⟩
    · have hgt : 9999 < id := by omega
      go_enter Tryz.func69, Tryz.ntmps69
      go_wp2_with fail
      go_ret2
      exact ⟨rfl, ⟨_, _, _, unhide H⟩, FrX.refl _ _ _⟩
  · have h0 : ¬ id < 0 := by omega
    have h9 : ¬ 9999 < id := by omega
    have Hf := hide (find_any B p s id va vt tv d w h.toLedAt)
    clear h hl
    cases hfd : findT id s.txs with
    | some t =>
      rw [isN_no (by rw [pst_old hid hfd]), pst_old hid hfd]
      rw [hfd] at Hf
      obtain ⟨x, hx⟩ : ∃ x, repE t.2.1 day t.2.2 ls = x := ⟨_, rfl⟩
      rw [hx]
      have Hx := hide hx
      clear hx hfd
      go_enter Tryz.func69, Tryz.ntmps69
      go_wp2_with fail
      refine (unhide Hf).mono ?_
      rintro e w1 ⟨⟨t1, v1, ht1, hm1, rfl⟩ | ⟨ht1, _⟩, hb1⟩
      · simp only [Option.some.injEq] at ht1
        subst ht1
        have hln := ((unhide H).keptX hb1).txs.lns _ hm1
        have h4 : t.2.2.length ≤ 4 := by
          have : t ∈ s.txs := by rw [← (unhide H).jr]; exact List.mem_map_of_mem hm1
          exact ((unhide H).good.tx t this).2.2.2.2.1
        obtain ⟨ti, td, tl⟩ := t
        simp only at hln h4 Hx
        obtain ⟨aol, capl, rfl⟩ := ownsRow_form hln
        have Hln := hide hln
        have Hb1 := hide hb1
        have hsz1 := hb1.size
        clear hm1 hb1 hln
        go_wp2_with fail
        refine (repeated_any ti td day tl ls _ _ _ (by exact (LinesAt.of_own (unhide Hln)).kept ((Below.refl _ _).alloc (Nat.le_refl _) _)) (by exact (unhide Hl).kept ((unhide Hb1).alloc hsz1 _)) h4).mono ?_
        rw [unhide Hx]
        rintro e w2 ⟨rfl, hb2⟩
        have Hb2 : Hid (Below w.heap.size w w2) := ((unhide Hb1).alloc hsz1 _).then' (by simp; omega) hb2
        clear hb2
        go_wp2_with fail
        go_ret2
        exact ⟨rfl, ⟨_, _, _, (unhide H).keptX (unhide Hb2)⟩, FrX.of_below (unhide Hb2)⟩
      · cases ht1
    | none =>
      rw [hfd] at Hf
      by_cases hd : day < 0 ∨ 999 < day
      · rw [isN_no (by rw [pst_day hid hfd hd]), pst_day hid hfd hd]
        clear hfd
        by_cases hneg : day < 0
        all_goals
          go_enter Tryz.func69, Tryz.ntmps69
          go_wp2_with fail
          refine (unhide Hf).mono ?_
          rintro e w1 ⟨⟨t1, v1, ht1, _, _⟩ | ⟨_, rfl⟩, hb1⟩
          · cases ht1
          have Hb1 := hide hb1
          have hsz1 := hb1.size
          clear hb1
          have hor : ¬ day < 0 → 999 < day := fun h => by omega
          go_wp2_with fail
          go_ret2
          exact ⟨rfl, ⟨_, _, _, (unhide H).keptX ((unhide Hb1).alloc hsz1 _)⟩, FrX.of_below ((unhide Hb1).alloc hsz1 _)⟩
      · have hd0 : ¬ day < 0 := by omega
        have hd9 : ¬ 999 < day := by omega
        have Hc := hide (fun (wx : World) (hb : Below w.heap.size w wx) => checkLines_any B p s _ ls wx ⟨_, _, _, _, (unhide H).toLedAt.kept hb⟩ ((unhide Hl).kept hb))
        by_cases hlz : lnsE s ls = 0
        · have Hcc : Hid (∀ (wx : World), Below w.heap.size w wx → Calls Tryz.prog 91 #[.pointer (some ⟨p, 0, none⟩), .slice ao ls.length cap] wx fun e w' => e = .returned (.int .i64 0) ∧ Below wx.heap.size wx w') := by
            intro wx hb; have := unhide Hc wx hb; rw [hlz] at this; exact this
          obtain ⟨aot, capt, rfl⟩ := ownsRow_form (unhide H).txs.own
          have hjl : tv.length = s.txs.length := by rw [← (unhide H).jr, List.length_map]
          have hgp := (unhide H).good.posts
          by_cases h64 : 64 ≤ s.txs.length
          · rw [isN_no (by rw [pst_full hid hfd hd hlz h64]), pst_full hid hfd hd hlz h64]
            have h64' : 64 ≤ tv.length := by omega
            clear hfd hlz Hc hjl hgp h64
            go_enter Tryz.func69, Tryz.ntmps69
            go_wp2_with fail
            refine (unhide Hf).mono ?_
            rintro e w1 ⟨⟨t1, v1, ht1, _, _⟩ | ⟨_, rfl⟩, hb1⟩
            · cases ht1
            have Hb1 := hide hb1
            have hsz1 := hb1.size
            clear hb1
            go_wp2_with fail
            refine (unhide Hcc _ (by exact (unhide Hb1).alloc hsz1 _)).mono ?_
            rintro e w2 ⟨rfl, hb2⟩
            have Hb2 : Hid (Below w.heap.size w w2) := ((unhide Hb1).alloc hsz1 _).then' (by simp; omega) hb2
            have H2 := hide ((unhide H).keptX (unhide Hb2))
            have c1 := (unhide H2).blk.cell 1
            simp only [List.getElem?_toArray, List.getElem?_cons_zero, List.getElem?_cons_succ] at c1
            clear hb2
            go_wp2_with fail
            go_ret2
            exact ⟨rfl, ⟨_, _, _, unhide H2⟩, FrX.of_below (unhide Hb2)⟩
          · have hok := pst_ok hid hfd hd hlz h64
            have Hgood : Hid (BkGood { s with txs := s.txs ++ [(id, day, ls)] }) := by
              have := BkGood.pst (unhide H).good id day ls
              rw [hok] at this
              exact this
            rw [isN_yes (by rw [hok]), hok]
            have h64' : tv.length < 64 := by omega
            have hl4 : ls.length ≤ 4 := (lnsE_ok (unhide H).good hlz).1
            have hl2 : 2 ≤ ls.length := by
              by_cases hx : ls.length < 2
              · rw [lnsE_15 (.inl hx)] at hlz; simp at hlz
              · omega
            obtain ⟨ao1, cap1, e1, hr⟩ := unhide Hl
            simp only [Value.slice.injEq, true_and] at e1
            obtain ⟨rfl, rfl⟩ := e1
            obtain ⟨b, off, rfl, hbl, hcs⟩ : ∃ b off, ao = some ⟨b, off, none⟩ ∧ b < w.heap.size ∧ ∀ (i : Nat) (l : Ln), ls[i]? = some l → w.cell? ⟨b, off + i * 2, none⟩ = some (.int .i64 l.1) ∧ w.cell? ⟨b, off + i * 2 + 1, none⟩ = some (.int .i64 l.2) := by
              rcases hr with rfl | hr
              · simp at hl2
              · exact hr
            have Hcs := hide (lines_cells hcs)
            have hBp := (unhide H).lo
            have hpl := (unhide H).blk.lt
            clear hfd hlz Hc hjl hgp h64 hok hr hcs
            go_enter Tryz.func69, Tryz.ntmps69
            go_wp2_with fail
            refine (unhide Hf).mono ?_
            rintro e w1 ⟨⟨t1, v1, ht1, _, _⟩ | ⟨_, rfl⟩, hb1⟩
            · cases ht1
            have Hb1 := hide hb1
            have hsz1 := hb1.size
            clear hb1
            go_wp2_with fail
            refine (unhide Hcc _ (by exact (unhide Hb1).alloc hsz1 _)).mono ?_
            rintro e w2 ⟨rfl, hb2⟩
            have Hb2 : Hid (Below w.heap.size w w2) := ((unhide Hb1).alloc hsz1 _).then' (by simp; omega) hb2
            have H2 := hide ((unhide H).keptX (unhide Hb2))
            have c1 := (unhide H2).blk.cell 1
            have z1 := (unhide H2).blk.frozen 1
            have hsz2 := (unhide Hb2).size
            simp only [List.getElem?_toArray, List.getElem?_cons_zero, List.getElem?_cons_succ] at c1
            have Hcs2 : Hid (∀ j u, (cellsL ls)[j]? = some u → w2.cell? ((⟨b, off, none⟩ : Addr).add j) = some u) := by
              intro j u hju
              rw [← unhide Hcs j u hju, Addr.add_lit]
              exact (unhide Hb2).cell (p := ⟨b, off + j, none⟩) hbl
            clear hb2
            go_wp2_with (first
              | (at_builtin; refine wpList_append_own _ rfl (.tmp 49) (.tmp 50) 42 rfl w2.heap.size 84 ii (.agg #[.int .i64 0, .int .i64 0]) 2 16 Tryz.underlying42 hi hz0 hz1 hz2 rfl (by decide) (.slice none 0 0) 0 [] rfl (World.ownsRow_nil _ _ _ _) ⟨b, off, none⟩ ls.length cap (cellsL ls) rfl (cellsL_length ls) (unhide Hcs2) (cellsL_one ls) (by unfold maxLen; omega) (by omega) (Nat.le_refl _) ?_; intro vk w3 hown3 hgr3 _; have hb3 := below_of_none hgr3; simp only [Nat.zero_add, List.nil_append] at hown3; obtain ⟨gk, ck, rfl, hgk, hgk'⟩ := ownsRow_some hown3 (by omega); have H3 := hide ((unhide H2).keptX hb3); have c3 := (unhide H3).blk.cell 1; have z3 := (unhide H3).blk.frozen 1; have l3 := (unhide H3).blk.lt; simp only [List.getElem?_toArray, List.getElem?_cons_zero, List.getElem?_cons_succ] at c3; have Hown3 := hide (ownsRow_base hown3 (base' := B) (fun k hk => by have := (ownsRow_tg hown3 k hk).1; omega)); have Hb3 := hide ((unhide Hb2).then hb3); have hsz3 := hb3.size; clear hown3 hgr3 hb3)
              | (at_builtin; refine wpList_append_own_at _ rfl (.tmp 56) (.tmp 61) 76 rfl B 136 jj (.agg #[.int .i64 0, .int .i64 0, .slice none 0 0]) 3 40 Tryz.underlying76 hj hy0 hy1 hy2 rfl (by decide) (.slice aot tv.length capt) tv.length _ rfl ((unhide H3).txs.own.alloc _) ⟨w3.heap.size, 0, none⟩ 1 1 [.int .i64 id, .int .i64 day, .slice (some ⟨gk, 0, none⟩) ls.length ck] rfl rfl (new3 _ _ (by simp) _ _ _ _) (fun x hx => by simp at hx; rcases hx with rfl | rfl | rfl <;> rfl) (by unfold maxLen; omega) (by omega) (by simp; omega) ?_; intro vq' w5 hown5 hgr5 _ hat5; obtain ⟨gf, cf, rfl, hgf, hgf'⟩ := ownsRow_some hown5 (Nat.succ_pos _); have hblk5 := ((unhide H3).blk.alloc _).grown hgr5 (blk_own_ne (unhide H3).blk (unhide H3).txs.own (by decide)); have c5 := hblk5.cell 1; have z5 := hblk5.frozen 1; have l5 := hblk5.lt; simp only [List.getElem?_toArray, List.getElem?_cons_zero, List.getElem?_cons_succ] at c5; have Hblk5 := hide hblk5; have Hown5 := hide hown5; have Hgr5 := hide hgr5; have Hat5 := hide hat5; clear hblk5 hown5 hgr5 hat5))
            go_ret2
            have hfin := (unhide H3).post _ (t := (id, day, ls)) (unhide Hown3) (unhide Hgr5) (unhide Hblk5) (s' := { s with txs := s.txs ++ [(id, day, ls)] }) (by rw [cellsT_snoc]; exact unhide Hown5) rfl rfl (unhide Hgood) (by unfold cnt; simp) (unhide Hat5)
            exact ⟨rfl, ⟨_, _, _, hfin.1⟩, (FrX.of_below (unhide Hb3)).trans hfin.2⟩
        · obtain ⟨x, hx⟩ : ∃ x, lnsE s ls = x := ⟨_, rfl⟩
          rw [isN_no (by rw [pst_bad hid hfd hd hlz]), pst_bad hid hfd hd hlz]
          rw [hx] at Hc hlz ⊢
          have hxe : (x == 0) = false := by simpa using hlz
          clear hfd hx
          go_enter Tryz.func69, Tryz.ntmps69
          go_wp2_with fail
          refine (unhide Hf).mono ?_
          rintro e w1 ⟨⟨t1, v1, ht1, _, _⟩ | ⟨_, rfl⟩, hb1⟩
          · cases ht1
          have Hb1 := hide hb1
          have hsz1 := hb1.size
          clear hb1
          go_wp2_with fail
          refine (unhide Hc _ (by exact (unhide Hb1).alloc hsz1 _)).mono ?_
          rintro e w2 ⟨rfl, hb2⟩
          have Hb2 : Hid (Below w.heap.size w w2) := ((unhide Hb1).alloc hsz1 _).then' (by simp; omega) hb2
          clear hb2
          go_wp2_with fail
          go_ret2
          exact ⟨rfl, ⟨_, _, _, (unhide H).keptX (unhide Hb2)⟩, FrX.of_below (unhide Hb2)⟩


end Go.Proofs.YtdchbenfccofpabGreatDoor
