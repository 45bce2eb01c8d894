/- Codes: a code by its form. Codes: the document runs a code. Walks of the check: wrongKind. Walks of the check: Read. Reports: the program's sheet: a row is laid. -/
import Derived.Test.YtdchbenfccofpaaGreatDoorC13
import Derived.Test.YtdchbenfccofpaaGreatDoorC14
import Derived.Test.YtdchbenfccofpaaGreatDoorC02
namespace Db
open Go Go.Proofs.YtdchbenfccofpaaGreatDoor
theorem jn_cons2 (c : UInt8) (x y : List UInt8) (r : List (List UInt8)) : jn c (x :: y :: r) = x ++ c :: jn c (y :: r) := by simp [jn]
theorem split_jn (c : UInt8) : ∀ (ws : List (List UInt8)), ws ≠ [] → (∀ w ∈ ws, ∀ x ∈ w, x ≠ c) → split (jn c ws) c = ws
  | [], h, _ => absurd rfl h
  | [x], _, h => by
    have : jn c [x] = x := by simp [jn]
    rw [this, split_one c x (h x (by simp))]
  | x :: y :: r, _, h => by
    rw [jn_cons2, split_cons c x _ (h x (by simp)), split_jn c (y :: r) (by simp) (fun w hw => h w (by simp [hw]))]
theorem itoa_bytes (n : Int) : ∀ x ∈ Lib.itoa n, digB x.toNat = true ∨ x = 45 := by
  by_cases hn : n < 0
  · obtain ⟨u, rfl⟩ : ∃ u : Nat, n = -(u : Int) := ⟨n.natAbs, by omega⟩
    rw [Lib.itoa_neg u (by omega)]
    intro x hx
    rcases List.mem_cons.1 hx with rfl | hx
    · exact .inr rfl
    · exact .inl ((dec_facts u).1 x hx)
  · obtain ⟨u, rfl⟩ : ∃ u : Nat, n = (u : Int) := ⟨n.toNat, by omega⟩
    rw [Lib.itoa_nonneg]
    exact fun x hx => .inl ((dec_facts u).1 x hx)
theorem itoa_no {n : Int} {x : UInt8} (h : x ∈ Lib.itoa n) : x ≠ 32 ∧ x ≠ 59 := by
  rcases itoa_bytes n x h with h | rfl
  · constructor <;> (rintro rfl; exact absurd h (by decide))
  · decide
theorem word_bytes {p : Pt} (h : PtS p) : ∀ x ∈ wordC p, x ≠ 32 ∧ x ≠ 59 := by
  obtain ⟨s, n⟩ := p
  intro x hx
  rcases sg_cases h.1 with hs | hs | ⟨h1, h2⟩
  · simp only at hs
    subst hs
    exact itoa_no hx
  · rw [wordC_opd hs] at hx
    rcases List.mem_cons.1 hx with rfl | hx
    · simp only at hs ⊢
      rcases hs with hs | hs
      · simp [selB] at hs; rcases hs with (rfl | rfl) | rfl <;> decide
      · simp [oldB] at hs; rcases hs with rfl | rfl <;> decide
    · exact itoa_no hx
  · rw [wordC_op h1] at hx
    simp only [List.mem_singleton] at hx
    subst hx
    simp only at h2 ⊢
    rcases h2 with h2 | rfl
    · simp [opB] at h2; rcases h2 with ((rfl | rfl) | rfl) | rfl <;> decide
    · decide
theorem jn_bytes {c : UInt8} {q : UInt8 → Prop} (hc : q c) : ∀ (ws : List (List UInt8)), (∀ w ∈ ws, ∀ x ∈ w, q x) → ∀ x ∈ jn c ws, q x
  | [], _ => by simp [jn]
  | [x], h => by have : jn c [x] = x := by simp [jn]
                 rw [this]; exact h x (by simp)
  | x :: y :: r, h => by
    rw [jn_cons2]
    intro z hz
    simp only [List.mem_append, List.mem_cons] at hz
    rcases hz with hz | rfl | hz
    · exact h x (by simp) z hz
    · exact hc
    · exact jn_bytes hc (y :: r) (fun w hw => h w (by simp [hw])) z hz
/-- The pile at each place of words that come to one cell. -/
theorem pile_at {E : Pt → Cl} {ps : List Pt} {c : Cl} (h : ps.foldl (vStep E) (some []) = some [c]) (i : Nat) : ∃ st, (ps.take i).foldl (vStep E) (some []) = some st := by
  rw [← List.take_append_drop i ps, List.foldl_append] at h
  cases hs : (ps.take i).foldl (vStep E) (some []) with
  | some st => exact ⟨st, rfl⟩
  | none => rw [hs, fold_none] at h; cases h
theorem pile_step {E : Pt → Cl} {ps : List Pt} {i : Nat} {p : Pt} (h : ps[i]? = some p) : (ps.take (i + 1)).foldl (vStep E) (some []) = vStep E ((ps.take i).foldl (vStep E) (some [])) p := by
  rw [List.take_add_one, h]; simp
/-- How many are on the pile behind a word. -/
theorem step_len {E : Pt → Cl} {st st' : List Cl} {p : Pt} (h : vStep E (some st) p = some st') :
    (opdB p.1 = true → st'.length = st.length + 1) ∧ (opdB p.1 = false → p.1 = 126 → 1 ≤ st.length ∧ st'.length = st.length) ∧ (opdB p.1 = false → ¬ p.1 = 126 → 2 ≤ st.length ∧ st'.length + 1 = st.length) := by
  refine ⟨fun ho => ?_, fun ho h6 => ?_, fun ho h6 => ?_⟩
  · simp [vStep, ho] at h; rw [← h]; simp
  · have e : (p.1 == 126) = true := by simp [h6]
    simp only [vStep, ho, e, if_true, Bool.false_eq_true, if_false] at h
    cases st with
    | nil => cases h
    | cons x t => simp at h; rw [← h]; simp
  · have e : (p.1 == 126) = false := by simpa using h6
    simp only [vStep, ho, e, Bool.false_eq_true, if_false] at h
    match st, h with
    | [], h => cases h
    | [x], h => cases h
    | y :: x :: t, h => simp at h; rw [← h]; simp
end Db
namespace Go.Proofs.YtdchbenfccofpaaGreatDoor
open Go.RowKit Db

theorem split_words {code : ByteArray} {ps : List Pt} {us : List ByteArray} (hc : L code = jn 32 (ps.map wordC)) (hne : ps ≠ []) (hP : ∀ p ∈ ps, PtS p) (hus : us.map L = split (L code) 32) : us.map L = ps.map wordC := by
  rw [hus, hc]
  refine split_jn 32 _ (by simpa using hne) ?_
  intro w hw x hx
  obtain ⟨p, hp, rfl⟩ := List.mem_map.1 hw
  exact (word_bytes (hP p hp) x hx).1

set_option maxRecDepth 100000 in
set_option maxHeartbeats 4000000 in
theorem formed_any (code t : ByteArray) (row : Nat) (ps0 ps : List Pt) (n : Nat) (w : World) (E : Pt → Cl) (c : Cl) (hc : L code = jn 32 (ps.map wordC)) (hsz : code.size ≤ 40000) (hW : ∀ p ∈ ps, WOk row p) (hN : Nf ps.reverse) (hv : ps.foldl (vStep E) (some []) = some [c]) (hwf : Wf n (L t) ps0) (hts : t.size ≤ 200) (hle : ps.length ≤ ps0.length) (h200 : ps0.length ≤ 200) :
    Calls Tryz.prog 78 #[.string code, .string t, .int .i64 (row : Int)] w fun e w' => e = .returned (.bool true) ∧ Below w.heap.size w w' := by
  have hP : ∀ p ∈ ps, PtS p := fun p hp => (hW p hp).1
  have hne : ps ≠ [] := by rintro rfl; simp at hv
  have Hsw := hide (fun (us : List ByteArray) (h : us.map L = split (L code) 32) => split_words hc hne hP h)
  have HP := hide hP
  have HW := hide hW
  have HN := hide hN
  have Hv := hide hv
  have Hpa := hide (fun wx : World => parts_any n t ps0 wx hts hwf h200)
  have hpos : 1 ≤ ps.length := by cases ps with | nil => exact absurd rfl hne | cons a r => simp
  clear hc hW hN hv hwf hP hne
  go_enter Tryz.func78, Tryz.ntmps78
  go_wp2_with fail
  refine (split_any code 32 _ (by omega)).mono ?_
  rintro e w1 ⟨v, us, rfl, hus, hown, hb1⟩
  have HD : Hid (WdAt w1 w.heap.size v us ps) := ⟨hown, unhide Hsw us hus⟩
  have Hlen := hide (unhide HD).len
  have hul : us.length ≤ 200 := by have := unhide Hlen; omega
  have hul1 : 1 ≤ us.length := by have := unhide Hlen; omega
  obtain ⟨g, cap, rfl, hg, hg'⟩ := ownsRow_some hown hul1
  have Hb1 := hide hb1
  clear hus hown hb1 Hsw
  go_wp2_with fail
  go_loopg [8, 9] us.length (fun m pv i wr => ∃ j : Nat, ∃ st : List Cl, j ≤ us.length ∧ m = us.length - j ∧ i = .int .i64 j ∧ pv = .int .i64 (st.length : Int) ∧ st.length ≤ j ∧ Hid ((ps.take j).foldl (vStep E) (some []) = some st) ∧ wr = w1)
  case atStart => exact ⟨0, [], by omega, rfl, rfl, rfl, by simp, rfl, rfl⟩
  case round =>
    obtain ⟨j, st, hj, rfl, rfl, rfl, hst, Hs, rfl⟩ := hrel
    by_cases hlt : j < us.length
    · obtain ⟨u, p, hu, hp, hL, d⟩ := (unhide HD).at hlt
      have hPp := unhide HP p (List.mem_of_getElem? hp)
      have hWp := unhide HW p (List.mem_of_getElem? hp)
      have hus := word_size hPp hL
      have Hwh := hide (fun wx : World => whole_any u wx (by omega))
      have Hch := hide (fun wx : World => chooses_any u row wx (by omega))
      have Hac := hide (fun wx : World => acts_any u wx)
      rw [hL, whl_word hPp] at Hwh
      rw [hL] at Hch
      rw [hL, act_word hPp] at Hac
      obtain ⟨st2, hst2⟩ := pile_at (unhide Hv) (j + 1)
      have hstep := hst2
      rw [pile_step hp, unhide Hs] at hstep
      have hsl := step_len hstep
      have Hs2 := hide hst2
      obtain ⟨s, nn⟩ := p
      simp only at Hwh Hac hsl
      have hlti : (j : Int) < (us.length : Int) := by omega
      rcases sg_cases hPp.1 with hs | hs | ⟨h1, h2⟩
      · simp only at hs
        subst hs
        have hl2 := hsl.1 rfl
        simp only [beq_self_eq_true, if_true] at Hwh
        rw [show opdB 48 = true from rfl] at Hac
        obtain ⟨ch, hch⟩ : ∃ ch, choB (wordC (48, nn)) row = ch := ⟨_, rfl⟩
        rw [hch] at Hch
        clear hu hp hL hPp hWp hst2 hstep hsl hch
        go_wp2_with fail
        refine (unhide Hwh _).mono ?_
        rintro e w2 ⟨rfl, rfl⟩
        go_wp2_with fail
        refine (unhide Hch _).mono ?_
        rintro e w2 ⟨rfl, rfl⟩
        go_wp2_with fail
        refine (unhide Hac _).mono ?_
        rintro e w2 ⟨rfl, rfl⟩
        go_wp2_with fail
        go_roundg (us.length - (j + 1))
        case measure => omega
        case rel => exact ⟨j + 1, st2, by omega, rfl, by go_num, by rw [hl2]; go_num, by omega, unhide Hs2, rfl⟩
      · have hch := cho_word hWp hs
        simp only at hs
        have h5 := u8_sel hs
        have hl2 := hsl.1 h5.2.2.2.2
        rw [h5.2.2.2.1] at Hwh
        simp only [Bool.false_eq_true, if_false] at Hwh
        rw [h5.2.2.2.2] at Hac
        rw [hch] at Hch
        clear hu hp hL hPp hWp hst2 hstep hsl hch hs h5
        go_wp2_with fail
        refine (unhide Hwh _).mono ?_
        rintro e w2 ⟨rfl, rfl⟩
        go_wp2_with fail
        refine (unhide Hch _).mono ?_
        rintro e w2 ⟨rfl, rfl⟩
        go_wp2_with fail
        refine (unhide Hac _).mono ?_
        rintro e w2 ⟨rfl, rfl⟩
        go_wp2_with fail
        go_roundg (us.length - (j + 1))
        case measure => omega
        case rel => exact ⟨j + 1, st2, by omega, rfl, by go_num, by rw [hl2]; go_num, by omega, unhide Hs2, rfl⟩
      · simp only at h1 h2
        have hw1 := wordC_op (p := (s, nn)) h1
        have h48 : (s == 48) = false := by
          cases h8 : (s == 48) with
          | false => rfl
          | true => rw [beq_iff_eq.1 h8] at h1; cases h1
        have hch : choB (wordC (s, nn)) row = false := by rw [hw1]; rfl
        rw [hch] at Hch
        rw [h48] at Hwh
        simp only [Bool.false_eq_true, if_false] at Hwh
        rw [h1] at Hac
        rw [hw1] at hL
        simp only at hL
        have h5 := op_five hPp h1
        simp only at h5
        rcases h5 with rfl | h5
        · obtain ⟨hl1, hl2⟩ := hsl.2.1 rfl rfl
          rw [lit126] at hL
          obtain rfl := one_byte hL
          clear hu hp hL hPp hWp hst2 hstep hsl hch hw1 h1 h2 h48
          go_wp2_with fail
          refine (unhide Hwh _).mono ?_
          rintro e w2 ⟨rfl, rfl⟩
          go_wp2_with fail
          refine (unhide Hch _).mono ?_
          rintro e w2 ⟨rfl, rfl⟩
          go_wp2_with fail
          refine (unhide Hac _).mono ?_
          rintro e w2 ⟨rfl, rfl⟩
          go_wp2_with fail
          go_roundg (us.length - (j + 1))
          case measure => omega
          case rel => exact ⟨j + 1, st2, by omega, rfl, by go_num, by rw [hl2], by omega, unhide Hs2, rfl⟩
        · have e126 : ¬ s = 126 := by omega
          obtain ⟨hl1, hl2⟩ := hsl.2.2 h1 e126
          have hll : (st.length : Int) - 1 = (st2.length : Int) := by omega
          clear hu hp hPp hWp hst2 hstep hsl hch hw1 h1 h2 h48
          rcases h5 with rfl | rfl | rfl | rfl
          all_goals
            first | rw [lit43] at hL | rw [lit45] at hL | rw [lit42] at hL | rw [lit47] at hL
            obtain rfl := one_byte hL
            clear hL
            go_wp2_with fail
            refine (unhide Hwh _).mono ?_
            rintro e w2 ⟨rfl, rfl⟩
            go_wp2_with fail
            refine (unhide Hch _).mono ?_
            rintro e w2 ⟨rfl, rfl⟩
            go_wp2_with fail
            refine (unhide Hac _).mono ?_
            rintro e w2 ⟨rfl, rfl⟩
            go_wp2_with fail
            go_roundg (us.length - (j + 1))
            case measure => omega
            case rel => exact ⟨j + 1, st2, by omega, rfl, by go_num, by first | rw [hll] | go_num, by omega, unhide Hs2, rfl⟩
    · obtain rfl : j = us.length := by omega
      have hs1 : st.length = 1 := by
        have h1 := unhide Hs
        rw [unhide Hlen, List.take_length, unhide Hv] at h1
        simp at h1
        rw [← h1]; rfl
      have hs1i : (st.length : Int) = 1 := by omega
      have hle' : us.length ≤ ps0.length := by have := unhide Hlen; omega
      go_wp2_with fail
      refine (unhide Hpa _).mono ?_
      rintro e w2 ⟨rfl, m, rfl⟩
      have Hun := hide (unfolded_any w.heap.size _ us ps (wr.drewN m) ((unhide HD).kept ((Below.refl _ _).drewN m)) (unhide HP) (unhide HN) (by omega) hul1)
      go_wp2_with fail
      refine (unhide Hun).mono ?_
      rintro e w3 ⟨rfl, hb3⟩
      have Hb3 := hide (((unhide Hb1).drewN m).then hb3)
      clear hb3
      go_wp2_with fail
      go_ret
      exact ⟨rfl, unhide Hb3⟩

end Go.Proofs.YtdchbenfccofpaaGreatDoor
namespace Go.Proofs.YtdchbenfccofpaaGreatDoor
open Go.RowKit Db

theorem cellsC_append (p q : List Cl) : cellsC (p ++ q) = cellsC p ++ cellsC q := by simp [cellsC]
/-- The uppermost of a pile is written over. -/
theorem own_lastC {w : World} {B g cap : Nat} {e : TypeId} {q : List Cl} {x : Cl} (h : w.ownsRow B e 2 (.slice (some ⟨g, 0, none⟩) (q.length + 1) cap) (q.length + 1) (cellsC (q ++ [x]))) (d : Cl) :
    ((w.setCell ⟨g, q.length * 2, none⟩ (.int .i64 d.1)).setCell ⟨g, q.length * 2 + 1, none⟩ (.int .u8 d.2)).ownsRow B e 2 (.slice (some ⟨g, 0, none⟩) (q.length + 1) cap) (q.length + 1) (cellsC (q ++ [d])) := by
  obtain ⟨_, h2⟩ := h
  rcases h2 with ⟨h0, _⟩ | ⟨g', cap', cur, hv, hg, hh, hn, hcap, hsz, htake⟩
  · cases h0
  · cases hv
    refine ⟨by rw [cellsC_length]; simp, .inr ⟨g, cap, (cur.setIfInBounds (q.length * 2) (.int .i64 d.1)).setIfInBounds (q.length * 2 + 1) (.int .u8 d.2), rfl, hg, ?_, hn, hcap, by simpa using hsz, ?_⟩⟩
    · exact Blk.set (Blk.set hh (q.length * 2) (.int .i64 d.1)) (q.length * 2 + 1) (.int .u8 d.2)
    · rw [Array.toList_setIfInBounds, Array.toList_setIfInBounds]
      have h1 : (cur.toList.take ((q.length + 1) * 2)).take (q.length * 2) = cellsC q := by
        rw [htake, cellsC_append, List.take_append_of_le_length (by rw [cellsC_length]; omega), List.take_of_length_le (by rw [cellsC_length]; omega)]
      rw [List.take_take, show min (q.length * 2) ((q.length + 1) * 2) = q.length * 2 by omega] at h1
      have hl : q.length * 2 + 2 ≤ cur.toList.length := by
        have := congrArg List.length htake
        rw [cellsC_length] at this
        simp at this
        simp
        omega
      rw [show (q.length + 1) * 2 = q.length * 2 + 1 + 1 by omega, List.take_succ_eq_append_getElem (by simp at hl ⊢; omega), List.take_succ_eq_append_getElem (by simp at hl ⊢; omega)]
      rw [List.take_set_of_le (by omega), List.take_set_of_le (by omega), h1, cellsC_append]
      simp [cellsC]
/-- A pile gives up its uppermost. -/
theorem own_lessC {w : World} {B g cap : Nat} {e : TypeId} {q : List Cl} {x y : Cl} (h : w.ownsRow B e 2 (.slice (some ⟨g, 0, none⟩) (q.length + 2) cap) (q.length + 2) (cellsC (q ++ [x, y]))) :
    w.ownsRow B e 2 (.slice (some ⟨g, 0, none⟩) (q.length + 1) cap) (q.length + 1) (cellsC (q ++ [x])) := by
  obtain ⟨_, h2⟩ := h
  rcases h2 with ⟨h0, _⟩ | ⟨g', cap', cur, hv, hg, hh, hn, hcap, hsz, htake⟩
  · cases h0
  · cases hv
    refine ⟨by rw [cellsC_length]; simp, .inr ⟨g, cap, cur, rfl, hg, hh, by omega, hcap, hsz, ?_⟩⟩
    have h1 : (cur.toList.take ((q.length + 2) * 2)).take ((q.length + 1) * 2) = cellsC (q ++ [x]) := by
      rw [htake, show q ++ [x, y] = (q ++ [x]) ++ [y] by simp, cellsC_append (q ++ [x]), List.take_append_of_le_length (by rw [cellsC_length]; simp), List.take_of_length_le (by rw [cellsC_length]; simp)]
    rwa [List.take_take, show min ((q.length + 1) * 2) ((q.length + 2) * 2) = (q.length + 1) * 2 by omega] at h1
/-- Where the loop over the parts stands. -/
structure DLoop (w wr : World) (E : Pt → Cl) (ps : List Pt) (c : Cl) (j : Nat) (q : List Cl) (vq : Value) : Prop where
  ev : (ps.drop j).foldl (vStep E) (some q.reverse) = some [c]
  own : wr.ownsRow w.heap.size 139 2 vq q.length (cellsC q)
  bel : Below w.heap.size w wr
  ok : ∀ c ∈ q, ClOk c
theorem DLoop.opnd {w wr w' : World} {E : Pt → Cl} {ps : List Pt} {c : Cl} {j : Nat} {q : List Cl} {vq vq' : Value} {p : Pt} (h : DLoop w wr E ps c j q vq) (hp : ps[j]? = some p) (ho : opdB p.1 = true) (hc : ClOk (opv E p))
    (hown : w'.ownsRow w.heap.size 139 2 vq' (q.length + 1) (cellsC q ++ [.int .i64 (opv E p).1, .int .u8 (opv E p).2])) (hb : Below w.heap.size w w') : DLoop w w' E ps c (j + 1) (q ++ [opv E p]) vq' := by
  have hd := drop_cons hp
  refine ⟨?_, by rw [cellsC_snoc]; simpa using hown, hb, ?_⟩
  · have := h.ev
    rw [hd, List.foldl_cons] at this
    simp only [vStep, ho, if_true] at this
    simpa using this
  · intro x hx
    simp at hx
    rcases hx with hx | rfl
    · exact h.ok x hx
    · exact hc
theorem DLoop.one {w wr : World} {E : Pt → Cl} {ps : List Pt} {c : Cl} {j : Nat} {q : List Cl} {vq : Value} {p : Pt} (h : DLoop w wr E ps c j q vq) (hp : ps[j]? = some p) (ho : opdB p.1 = false) (h126 : p.1 = 126) : 1 ≤ q.length := by
  have hd := drop_cons hp
  have e1 : (p.1 == 126) = true := by simp [h126]
  cases hq : q with
  | cons x t => simp
  | nil =>
    have := h.ev
    rw [hd, List.foldl_cons, hq] at this
    simp only [vStep, ho, e1, if_true, Bool.false_eq_true, if_false, List.reverse_nil] at this
    rw [fold_none] at this
    cases this
theorem DLoop.two {w wr : World} {E : Pt → Cl} {ps : List Pt} {c : Cl} {j : Nat} {q : List Cl} {vq : Value} {p : Pt} (h : DLoop w wr E ps c j q vq) (hp : ps[j]? = some p) (ho : opdB p.1 = false) (h126 : ¬ p.1 = 126) : 2 ≤ q.length := by
  have hd := drop_cons hp
  have e1 : (p.1 == 126) = false := by simpa using h126
  have := h.ev
  rw [hd, List.foldl_cons] at this
  simp only [vStep, ho, e1, Bool.false_eq_true, if_false] at this
  cases hq : q.reverse with
  | nil => rw [hq] at this; simp only at this; rw [fold_none] at this; cases this
  | cons y t =>
    cases ht : t with
    | nil => rw [hq, ht] at this; simp only at this; rw [fold_none] at this; cases this
    | cons x u =>
      have := congrArg List.length hq
      rw [ht] at this
      simp at this
      omega
theorem DLoop.neg {w wr w' : World} {E : Pt → Cl} {ps : List Pt} {c : Cl} {j : Nat} {q : List Cl} {x : Cl} {vq : Value} {p : Pt} (h : DLoop w wr E ps c j (q ++ [x]) vq) (hp : ps[j]? = some p) (ho : opdB p.1 = false) (h126 : p.1 = 126)
    (hown : w'.ownsRow w.heap.size 139 2 vq (q.length + 1) (cellsC (q ++ [don 45 (0, 0) x]))) (hb : Below w.heap.size w w') : DLoop w w' E ps c (j + 1) (q ++ [don 45 (0, 0) x]) vq := by
  have hd := drop_cons hp
  have e1 : (p.1 == 126) = true := by simp [h126]
  refine ⟨?_, by simpa using hown, hb, ?_⟩
  · have := h.ev
    rw [hd, List.foldl_cons] at this
    simp only [vStep, ho, e1, if_true, Bool.false_eq_true, if_false, List.reverse_append, List.reverse_cons, List.reverse_nil, List.nil_append, List.cons_append] at this
    simpa using this
  · intro y hy
    simp at hy
    rcases hy with hy | rfl
    · exact h.ok y (by simp [hy])
    · exact don_ok (.inl ⟨rfl, rfl⟩) (h.ok x (by simp))
theorem DLoop.join {w wr w' : World} {E : Pt → Cl} {ps : List Pt} {c : Cl} {j : Nat} {q : List Cl} {x y : Cl} {vq vq' : Value} {p : Pt} (h : DLoop w wr E ps c j (q ++ [x, y]) vq) (hp : ps[j]? = some p) (ho : opdB p.1 = false) (h126 : ¬ p.1 = 126)
    (hown : w'.ownsRow w.heap.size 139 2 vq' (q.length + 1) (cellsC (q ++ [don p.1 x y]))) (hb : Below w.heap.size w w') : DLoop w w' E ps c (j + 1) (q ++ [don p.1 x y]) vq' := by
  have hd := drop_cons hp
  have e1 : (p.1 == 126) = false := by simpa using h126
  refine ⟨?_, by simpa using hown, hb, ?_⟩
  · have := h.ev
    rw [hd, List.foldl_cons] at this
    simp only [vStep, ho, e1, Bool.false_eq_true, if_false, List.reverse_append, List.reverse_cons, List.reverse_nil, List.nil_append, List.cons_append] at this
    simpa using this
  · intro z hz
    simp at hz
    rcases hz with hz | rfl
    · exact h.ok z (by simp [hz])
    · exact don_ok (h.ok x (by simp)) (h.ok y (by simp))
theorem DLoop.done {w wr : World} {E : Pt → Cl} {ps : List Pt} {c : Cl} {j : Nat} {q : List Cl} {vq : Value} (h : DLoop w wr E ps c j q vq) (hj : ps.length ≤ j) : q = [c] := by
  have := h.ev
  rw [List.drop_eq_nil_of_le hj] at this
  simp only [List.foldl_nil, Option.some.injEq] at this
  have h2 := congrArg List.reverse this
  simpa using h2


set_option maxRecDepth 100000 in
set_option maxHeartbeats 8000000 in
theorem run_any (g k : Nat) (s0 : Bk) (pd : List (List UInt8 × List UInt8)) (cells : List (List Cl)) (code : ByteArray) (row : Int) (ps : List Pt) (c : Cl) (w : World) (h : Grd w g s0 pd cells) (hk : k < pd.length) (hc : L code = jn 32 (ps.map wordC)) (hsz : code.size ≤ 40000) (hW : ∀ p ∈ ps, WOk row p) (hrow : row ≤ cells.length) (hl : ps.length ≤ 200)
    (hv : ps.foldl (vStep (gE s0 pd cells k)) (some []) = some [c]) :
    Calls Tryz.prog 80 #[.pointer (some ⟨g, 0, none⟩), .string code, .int .i64 (k : Int)] w fun e w' => e = .returned (clV c) ∧ ClOk c ∧ Below w.heap.size w w' := by
  obtain ⟨ii, hi, hz0, hz1, hz2⟩ := info_parts info_cell
  have hP : ∀ p ∈ ps, PtS p := fun p hp => (hW p hp).1
  have hne : ps ≠ [] := by rintro rfl; simp at hv
  have hpos : 1 ≤ ps.length := by cases ps with | nil => exact absurd rfl hne | cons a r => simp
  have Hsw := hide (fun (us : List ByteArray) (h : us.map L = split (L code) 32) => split_words hc hne hP h)
  have HW := hide hW
  have HP := hide hP
  obtain ⟨E, hE⟩ : ∃ E, gE s0 pd cells k = E := ⟨_, rfl⟩
  rw [hE] at hv
  have Hop : Hid (∀ (wx : World) (u : ByteArray) (p : Pt), Below w.heap.size w wx → p ∈ ps → (selB p.1 = true ∨ oldB p.1 = true) → L u = wordC p → Calls Tryz.prog 120 #[.pointer (some ⟨g, 0, none⟩), .string u, .int .i64 (k : Int)] wx fun e w' => e = .returned (clV (opv E p)) ∧ ClOk (opv E p) ∧ Below wx.heap.size wx w') := by
    intro wx u p hb hpm ho hu
    have hw := hW p hpm
    have := gOperand_any u g k s0 pd cells wx p (by rw [hu]; exact opnd_wordC hw ho) (h.kept hb) hk (fun hold => by have := hw.2.2 hold; omega)
    rw [hE] at this
    exact this
  have Hv := hide hv
  clear h hW hP hne hv hE hc
  go_enter Tryz.func80, Tryz.ntmps80
  go_wp2_with fail
  refine (split_any code 32 _ (by omega)).mono ?_
  rintro e w1 ⟨v, us, rfl, hus, hown, hb1⟩
  have HD : Hid (WdAt w1 (w.alloc (.cells #[.int .i64 0, .int .u8 0] 139)).heap.size v us ps) := ⟨hown, unhide Hsw us hus⟩
  have Hlen := hide (unhide HD).len
  have hul : us.length ≤ 200 := by have := unhide Hlen; omega
  have hul1 : 1 ≤ us.length := by have := unhide Hlen; omega
  obtain ⟨gu, cap, rfl, hg, hg'⟩ := ownsRow_some hown hul1
  have HR := hide ((Blk.new w #[.int .i64 0, .int .u8 0] 139).kept hb1)
  have Hb1 : Hid (Below w.heap.size w w1) := ((Below.refl _ _).alloc (Nat.le_refl _) _).then' (by simp) hb1
  have hs1 := hb1.size
  simp at hs1
  clear hus hown hb1 Hsw
  go_wp2_with fail
  go_loopg [8, 9] us.length (fun m vq i wr => ∃ j : Nat, ∃ q : List Cl, j ≤ us.length ∧ m = us.length - j ∧ i = .int .i64 j ∧ q.length ≤ j ∧ Hid (DLoop w1 wr E ps c j q vq))
  case atStart => exact ⟨0, [], by omega, rfl, rfl, by simp, ⟨unhide Hv, World.ownsRow_nil _ _ _ _, Below.refl _ _, by simp⟩⟩
  case round =>
    obtain ⟨j, q, hj, rfl, rfl, hq, Hl⟩ := hrel
    obtain ⟨aoq, capq, hvq⟩ := ownsRow_form (unhide Hl).own
    subst hvq
    have hsz := (unhide Hl).bel.size
    by_cases hlt : j < us.length
    · obtain ⟨u, p, hu, hpj, hL, d0⟩ := (unhide HD).at hlt
      have hPp := unhide HP p (List.mem_of_getElem? hpj)
      have hWp := unhide HW p (List.mem_of_getElem? hpj)
      have hmem := List.mem_of_getElem? hpj
      have hus := word_size hPp hL
      have d := kept_cell' (unhide Hl).bel d0
      have Hwh := hide (fun wx : World => whole_any u wx (by omega))
      have Hac := hide (fun wx : World => acts_any u wx)
      rw [hL, whl_word hPp] at Hwh
      rw [hL, act_word hPp] at Hac
      obtain ⟨s, n⟩ := p
      simp only at Hwh Hac
      have Hpj := hide hpj
      have hlti : (j : Int) < (us.length : Int) := by omega
      have Hbw := hide ((unhide Hb1).then' (unhide Hb1).size (unhide Hl).bel)
      rcases sg_cases hPp.1 with hs | hs | ⟨h1, h2⟩
      · simp only at hs
        subst hs
        simp only [beq_self_eq_true, if_true] at Hwh
        rw [show opdB 48 = true from rfl] at Hac
        have hin := hPp.2
        simp only at hin
        have Hok : Hid (ClOk (opv E (48, n))) := .inl ⟨rfl, hin⟩
        clear hu hpj hL hPp hWp hmem d0
        go_wp2_with fail
        refine (unhide Hwh _).mono ?_
        rintro e w2 ⟨rfl, rfl⟩
        go_wp2_with fail
        refine (unhide Hac _).mono ?_
        rintro e w2 ⟨rfl, rfl⟩
        go_wp2_with (first
          | (at_builtin; refine wpList_append_own _ rfl (.tmp 52) (.tmp 55) 141 rfl w1.heap.size 139 ii (.agg #[.int .i64 0, .int .u8 0]) 2 16 Tryz.underlying141 hi hz0 hz1 hz2 rfl (by decide) (.slice aoq q.length capq) q.length _ rfl ((unhide Hl).own.alloc _) ⟨w2.heap.size, 0, none⟩ 1 1 [.int .i64 n, .int .u8 0] rfl rfl (cell_two_new' _ _ rfl _ _ _) (fun x hx => by simp at hx; rcases hx with rfl | rfl <;> rfl) (by unfold maxLen; omega) (by omega) (by simp; omega) ?_; intro vq' w5 hown5 hgr5 _; obtain ⟨gf, cf, rfl, hgf, hgf'⟩ := ownsRow_some hown5 (Nat.succ_pos _)))
        have hb5 : Below w1.heap.size w1 w5 := ((unhide Hl).bel.alloc (by omega) _).grown hgr5 (by simp; omega) (fun g hg => ((unhide Hl).own.lt g hg).1)
        have Hl5 := hide ((unhide Hl).opnd (unhide Hpj) rfl (unhide Hok) hown5 hb5)
        clear hown5 hgr5 hb5
        go_wp2_with fail
        go_roundg (us.length - (j + 1))
        case measure => omega
        case rel => exact ⟨j + 1, q ++ [(n, 0)], by omega, rfl, by go_num, by simp; omega, unhide Hl5⟩
      · have Hcall := hide (unhide Hop _ u (s, n) (unhide Hbw) hmem hs hL)
        simp only at hs
        have h5 := u8_sel hs
        rw [h5.2.2.2.1] at Hwh
        simp only [Bool.false_eq_true, if_false] at Hwh
        rw [h5.2.2.2.2] at Hac
        have Hnew : Hid (∀ {w' : World} {vq' : Value}, ClOk (opv E (s, n)) → w'.ownsRow w1.heap.size 139 2 vq' (q.length + 1) (cellsC q ++ [.int .i64 (opv E (s, n)).1, .int .u8 (opv E (s, n)).2]) → Below w1.heap.size w1 w' → DLoop w1 w' E ps c (j + 1) (q ++ [opv E (s, n)]) vq') := fun h1 h2 h3 => (unhide Hl).opnd (unhide Hpj) h5.2.2.2.2 h1 h2 h3
        obtain ⟨dd, hdd⟩ : ∃ dd, opv E (s, n) = dd := ⟨_, rfl⟩
        rw [hdd] at Hcall Hnew
        obtain ⟨da, db⟩ := dd
        unfold clV at Hcall
        simp only at Hcall Hnew
        clear hu hpj hL hPp hWp hmem d0 hdd hs h5
        go_wp2_with fail
        refine (unhide Hwh _).mono ?_
        rintro e w2 ⟨rfl, rfl⟩
        go_wp2_with fail
        refine (unhide Hac _).mono ?_
        rintro e w2 ⟨rfl, rfl⟩
        go_wp2_with fail
        refine (unhide Hcall).mono ?_
        rintro e w4 ⟨rfl, hok4, hb4⟩
        have Hok4 := hide hok4
        have Hb4 := hide ((unhide Hl).bel.then' hsz hb4)
        have Hq4 := hide (ownsRow_below (unhide Hl).own hb4)
        have hb4s := hb4.size
        clear hb4 hok4 Hcall
        go_wp2_with (first
          | (at_builtin; refine wpList_append_own _ rfl (.tmp 46) (.tmp 48) 141 rfl w1.heap.size 139 ii (.agg #[.int .i64 0, .int .u8 0]) 2 16 Tryz.underlying141 hi hz0 hz1 hz2 rfl (by decide) (.slice aoq q.length capq) q.length _ rfl (((unhide Hq4).alloc _).alloc _) ⟨w4.heap.size + 1, 0, none⟩ 1 1 [.int .i64 da, .int .u8 db] rfl rfl (cell_two_new' _ _ (by simp) _ _ _) (fun x hx => by simp at hx; rcases hx with rfl | rfl <;> rfl) (by unfold maxLen; omega) (by omega) (by simp; omega) ?_; intro vq' w5 hown5 hgr5 _; obtain ⟨gf, cf, rfl, hgf, hgf'⟩ := ownsRow_some hown5 (Nat.succ_pos _)))
        have hb5 : Below w1.heap.size w1 w5 := (((unhide Hb4).alloc (by omega) _).alloc (by simp; omega) _).grown hgr5 (by simp; omega) (fun g hg => ((unhide Hq4).lt g hg).1)
        have Hl5 := hide (unhide Hnew (unhide Hok4) hown5 hb5)
        clear hown5 hgr5 hb5
        go_wp2_with fail
        go_roundg (us.length - (j + 1))
        case measure => omega
        case rel => exact ⟨j + 1, q ++ [(da, db)], by omega, rfl, by go_num, by simp; omega, unhide Hl5⟩
      · simp only at h1 h2
        have hw1 := wordC_op (p := (s, n)) h1
        have h48 : (s == 48) = false := by
          cases h8 : (s == 48) with
          | false => rfl
          | true => rw [beq_iff_eq.1 h8] at h1; cases h1
        rw [h48] at Hwh
        simp only [Bool.false_eq_true, if_false] at Hwh
        rw [h1] at Hac
        rw [hw1] at hL
        simp only at hL
        have h5 := op_five hPp h1
        simp only at h5
        rcases h5 with rfl | h5
        · have hq1 := (unhide Hl).one (unhide Hpj) rfl rfl
          obtain ⟨qq, x, rfl⟩ := snocG1 q hq1
          obtain ⟨xa, xb⟩ := x
          have hlen : (qq ++ [(xa, xb)]).length = qq.length + 1 := by simp
          simp only [hlen] at hq Hl ⊢
          obtain ⟨gp, _, e1, hgp, hgp'⟩ := ownsRow_some (unhide Hl).own (by simp)
          simp only [hlen, Value.slice.injEq, true_and] at e1
          obtain ⟨rfl, rfl⟩ := e1
          have Hown : Hid (wr.ownsRow w1.heap.size 139 2 (.slice (some ⟨gp, 0, none⟩) (qq.length + 1) capq) (qq.length + 1) (cellsC (qq ++ [(xa, xb)]))) := by have := (unhide Hl).own; rw [hlen] at this; exact this
          have Hcell : Hid (∀ wx : World, wx.ownsRow w1.heap.size 139 2 (.slice (some ⟨gp, 0, none⟩) (qq.length + 1) capq) (qq.length + 1) (cellsC (qq ++ [(xa, xb)])) → wx.cell? ⟨gp, qq.length * 2, none⟩ = some (.int .i64 xa) ∧ wx.cell? ⟨gp, qq.length * 2 + 1, none⟩ = some (.int .u8 xb)) := fun wx hw =>
            ⟨ownsRow_cell hw (j := qq.length * 2) (u := .int .i64 xa) (by rw [cellsC_append, List.getElem?_append_right (by rw [cellsC_length]; omega), cellsC_length]; simp [cellsC]), ownsRow_cell hw (j := qq.length * 2 + 1) (u := .int .u8 xb) (by rw [cellsC_append, List.getElem?_append_right (by rw [cellsC_length]; omega), cellsC_length]; simp [cellsC])⟩
          obtain ⟨p1, p2⟩ := unhide Hcell wr (unhide Hown)
          have Hdn := hide (fun wx : World => done_any 45 (0, 0) (xa, xb) wx rfl (clOk_in ((unhide Hl).ok (xa, xb) (by simp))))
          have Hnew : Hid (∀ {w' : World}, w'.ownsRow w1.heap.size 139 2 (.slice (some ⟨gp, 0, none⟩) (qq.length + 1) capq) (qq.length + 1) (cellsC (qq ++ [don 45 (0, 0) (xa, xb)])) → Below w1.heap.size w1 w' → DLoop w1 w' E ps c (j + 1) (qq ++ [don 45 (0, 0) (xa, xb)]) (.slice (some ⟨gp, 0, none⟩) (qq.length + 1) capq)) := fun h2 h3 => (unhide Hl).neg (unhide Hpj) rfl rfl h2 h3
          obtain ⟨dd, hdd⟩ : ∃ dd, don 45 (0, 0) (xa, xb) = dd := ⟨_, rfl⟩
          rw [hdd] at Hdn Hnew
          obtain ⟨da, db⟩ := dd
          unfold clV at Hdn
          simp only at Hdn
          rw [lit126] at hL
          obtain rfl := one_byte hL
          clear hu hpj hL hPp hWp hmem d0 hdd h1 h2 hw1 h48 hlen hq1
          go_wp2_with fail
          refine (unhide Hwh _).mono ?_
          rintro e w2 ⟨rfl, rfl⟩
          go_wp2_with fail
          refine (unhide Hac _).mono ?_
          rintro e w2 ⟨rfl, rfl⟩
          go_wp2_with fail
          refine (unhide Hdn _).mono ?_
          rintro e w4 ⟨rfl, hb4⟩
          have Hq4 := hide (ownsRow_below (unhide Hown) hb4)
          have Hb4 := hide ((unhide Hl).bel.then' hsz hb4)
          have hb4s := hb4.size
          have z0 := ownsRow_frozen (unhide Hq4) (qq.length * 2)
          have z1 := ownsRow_frozen (unhide Hq4) (qq.length * 2 + 1)
          have hown5 := own_lastC (unhide Hq4) (da, db)
          have Hl5 := hide (unhide Hnew hown5 (((unhide Hb4).setCell (by show w1.heap.size ≤ gp; exact hgp) _).setCell (by show w1.heap.size ≤ gp; exact hgp) _))
          obtain ⟨r1, r2⟩ := unhide Hcell w4 (unhide Hq4)
          clear hb4 p1 p2 hown5 Hcell Hnew
          go_wp2_with fail
          go_roundg (us.length - (j + 1))
          case measure => omega
          case rel => exact ⟨j + 1, qq ++ [(da, db)], by omega, rfl, by go_num, by simp; omega, unhide Hl5⟩
        · have e126 : ¬ s = 126 := by omega
          have hq2 := (unhide Hl).two (unhide Hpj) h1 e126
          obtain ⟨qq, x, y, rfl⟩ := snocG2 q hq2
          obtain ⟨xa, xb⟩ := x
          obtain ⟨ya, yb⟩ := y
          have hlen : (qq ++ [(xa, xb), (ya, yb)]).length = qq.length + 2 := by simp
          simp only [hlen] at hq Hl ⊢
          obtain ⟨gp, _, e1, hgp, hgp'⟩ := ownsRow_some (unhide Hl).own (by simp)
          simp only [hlen, Value.slice.injEq, true_and] at e1
          obtain ⟨rfl, rfl⟩ := e1
          have Hown : Hid (wr.ownsRow w1.heap.size 139 2 (.slice (some ⟨gp, 0, none⟩) (qq.length + 2) capq) (qq.length + 2) (cellsC (qq ++ [(xa, xb), (ya, yb)]))) := by have := (unhide Hl).own; rw [hlen] at this; exact this
          have Hcell : Hid (∀ wx : World, wx.ownsRow w1.heap.size 139 2 (.slice (some ⟨gp, 0, none⟩) (qq.length + 2) capq) (qq.length + 2) (cellsC (qq ++ [(xa, xb), (ya, yb)])) → wx.cell? ⟨gp, qq.length * 2, none⟩ = some (.int .i64 xa) ∧ wx.cell? ⟨gp, qq.length * 2 + 1, none⟩ = some (.int .u8 xb) ∧ wx.cell? ⟨gp, (qq.length + 1) * 2, none⟩ = some (.int .i64 ya) ∧ wx.cell? ⟨gp, (qq.length + 1) * 2 + 1, none⟩ = some (.int .u8 yb)) := by
            intro wx hw
            have hcc : ∀ (k : Nat) (v : Value), [Value.int .i64 xa, .int .u8 xb, .int .i64 ya, .int .u8 yb][k]? = some v → (cellsC (qq ++ [(xa, xb), (ya, yb)]))[qq.length * 2 + k]? = some v := by
              intro k v hk
              rw [cellsC_append, List.getElem?_append_right (by rw [cellsC_length]; omega), cellsC_length, show qq.length * 2 + k - qq.length * 2 = k by omega]
              exact hk
            exact ⟨ownsRow_cell hw (j := qq.length * 2) (hcc 0 _ rfl), ownsRow_cell hw (j := qq.length * 2 + 1) (hcc 1 _ rfl), ownsRow_cell hw (j := (qq.length + 1) * 2) (by rw [show (qq.length + 1) * 2 = qq.length * 2 + 2 by omega]; exact hcc 2 _ rfl), ownsRow_cell hw (j := (qq.length + 1) * 2 + 1) (by rw [show (qq.length + 1) * 2 + 1 = qq.length * 2 + 3 by omega]; exact hcc 3 _ rfl)⟩
          have Hjn := hide (fun wx : World => done_any s (xa, xb) (ya, yb) wx (clOk_in ((unhide Hl).ok (xa, xb) (by simp))) (clOk_in ((unhide Hl).ok (ya, yb) (by simp))))
          have Hnew : Hid (∀ {w' : World}, w'.ownsRow w1.heap.size 139 2 (.slice (some ⟨gp, 0, none⟩) (qq.length + 1) capq) (qq.length + 1) (cellsC (qq ++ [don s (xa, xb) (ya, yb)])) → Below w1.heap.size w1 w' → DLoop w1 w' E ps c (j + 1) (qq ++ [don s (xa, xb) (ya, yb)]) (.slice (some ⟨gp, 0, none⟩) (qq.length + 1) capq)) := fun h2 h3 => (unhide Hl).join (unhide Hpj) h1 e126 h2 h3
          obtain ⟨dd, hdd⟩ : ∃ dd, don s (xa, xb) (ya, yb) = dd := ⟨_, rfl⟩
          rw [hdd] at Hjn Hnew
          obtain ⟨da, db⟩ := dd
          unfold clV at Hjn
          simp only at Hjn
          obtain ⟨p1, p2, p3, p4⟩ := unhide Hcell wr (unhide Hown)
          obtain ⟨cu, hcu⟩ : ∃ cu : UInt8, u = ⟨#[cu]⟩ ∧ (cu.toNat : Int) = s := by
            refine ⟨Db.u8 s, one_byte hL, ?_⟩
            exact (u8_op h2).1
          obtain ⟨rfl, hcs⟩ := hcu
          have hcu0 : ((⟨#[cu]⟩ : ByteArray).size) = 1 := rfl
          have e2 : (qq.length : Int) + 2 - 1 = (qq.length : Int) + 1 := by omega
          have e3 : (qq.length : Int) + 2 - 2 = (qq.length : Int) := by omega
          have wq0 : IntKind.i64.wrap (qq.length : Int) = qq.length := by rw [IntKind.wrap_i64]; omega
          have wq1 : IntKind.i64.wrap ((qq.length : Int) + 1) = (qq.length : Int) + 1 := by rw [IntKind.wrap_i64]; omega
          have tq1 : ((qq.length : Int) + 1).toNat = qq.length + 1 := by omega
          have tq0 : (qq.length : Int).toNat = qq.length := by omega
          have lq1 : (0 : Int) ≤ (qq.length : Int) + 1 := by omega
          have lq0 : (0 : Int) ≤ (qq.length : Int) := by omega
          have lq3 : (qq.length : Int) < (qq.length : Int) + 2 := by omega
          have lq2 : (qq.length : Int) + 1 < (qq.length : Int) + 2 := by omega
          have hgul : gu < wr.heap.size := by omega
          have hne1 : wr.heap.size ≠ gu := by omega
          have hne2 : wr.heap.size ≠ gp := by omega
          have hcap : qq.length + 1 ≤ capq := by
            rcases (unhide Hown).2 with ⟨h0, _⟩ | ⟨g', cap', cur, hv, _, _, hn, _⟩
            · cases h0
            · cases hv; omega
          have hnt : ¬ cu.toNat = 126 := by omega
          have hnt2 : (cu == 126) = false := by rw [beq_eq_false_iff_ne]; rintro rfl; exact hnt rfl
          clear hu hpj hL hPp hWp hmem d0 hdd h1 h2 hw1 h48 hlen hq2 e126 h5
          go_wp2_with fail
          refine (unhide Hwh _).mono ?_
          rintro e w2 ⟨rfl, rfl⟩
          go_wp2_with fail
          refine (unhide Hac _).mono ?_
          rintro e w2 ⟨rfl, rfl⟩
          go_upto_region 16 with fail
          obtain ⟨u, hu', hz', hi0⟩ : ∃ u : ByteArray, (⟨#[cu]⟩ : ByteArray) = u ∧ ∃ hz' : 0 < u.size, (u[0].toNat : Int) = s := ⟨⟨#[cu]⟩, rfl, Nat.zero_lt_one, hcs⟩
          rw [hu'] at d ⊢
          clear hu' hcu0
          have HCA := hide (fun (w4 : World) => cutQA (w3 := w2) (w4 := w4) (a := .int .i64 da) (b := .int .u8 db) (a0 := .int .i64 0) (b0 := .int .u8 0) (T := 139))
          have HCB := hide (fun (w4 : World) => cutQB (w3 := w2) (w4 := w4) (a := .int .i64 da) (b := .int .u8 db) (T := 139))
          go_cut [14] (fun vj wx => ∃ gd : Nat, vj = .pointer (some ⟨gd, 0, none⟩) ∧ CutQ w2 wx gd (.int .i64 da) (.int .u8 db) 139)
          case first =>
            have hcall := unhide Hjn
            clear hq Hl Hcell Hpj Hnew Hop Hjn HD HP HW Hv Hlen Hown HR Hb1 Hbw Hwh Hac
            go_region_held3 (fun w' => w'.cell? ⟨gu, j, none⟩ = some (.string u) ∧ w'.cell? ⟨gp, qq.length * 2, none⟩ = some (.int .i64 xa) ∧ w'.cell? ⟨gp, qq.length * 2 + 1, none⟩ = some (.int .u8 xb) ∧ w'.cell? ⟨gp, (qq.length + 1) * 2, none⟩ = some (.int .i64 ya) ∧ w'.cell? ⟨gp, (qq.length + 1) * 2 + 1, none⟩ = some (.int .u8 yb)) (first | go_keep | exact ⟨kept_cell' hb4 (by simp [*]), kept_cell' hb4 (by simp [*]), kept_cell' hb4 (by simp [*]), kept_cell' hb4 (by simp [*]), kept_cell' hb4 (by simp [*])⟩ | exact ⟨kept_al hb4 (by simp [*]), kept_al hb4 (by simp [*]), kept_al hb4 (by simp [*]), kept_al hb4 (by simp [*]), kept_al hb4 (by simp [*])⟩) (first | (go_at_call 119; refine (hcall _).mono ?_; rintro e w4 ⟨rfl, hb4⟩; have k0 := fun h => hb4.cell (p := ⟨w2.heap.size, 0, none⟩) h; have k1 := fun h => hb4.cell (p := ⟨w2.heap.size, 1, none⟩) h; have y0 := fun h => hb4.frozen (p := ⟨w2.heap.size, 0, none⟩) h; have y1 := fun h => hb4.frozen (p := ⟨w2.heap.size, 1, none⟩) h; simp at k0 k1 y0 y1))
            all_goals (try go_wp2_with fail)
            all_goals go_meet
            all_goals first
              | exact ⟨w2.heap.size, rfl, unhide HCA w4 hb4⟩
              | exact ⟨w4.heap.size, rfl, unhide HCB w4 hb4⟩
          case rest =>
            obtain ⟨gd, rfl, hr⟩ := hcut
            have Hb5 := hide ((unhide Hl).bel.then' hsz hr.bel)
            have Hq5 := hide (ownsRow_below (unhide Hown) hr.bel)
            obtain ⟨m0, m1, _, _, lm⟩ := two_cells hr.blk
            have hszc := hr.bel.size
            have hown5 := own_lastC (own_lessC (unhide Hq5)) (da, db)
            have Hl5 := hide (unhide Hnew hown5 (((unhide Hb5).setCell (by show w1.heap.size ≤ gp; exact hgp) _).setCell (by show w1.heap.size ≤ gp; exact hgp) _))
            have z0 := ownsRow_frozen (unhide Hq5) (qq.length * 2)
            have z1 := ownsRow_frozen (unhide Hq5) (qq.length * 2 + 1)
            obtain ⟨r1, r2, r3, r4⟩ := unhide Hcell _ (unhide Hq5)
            clear hr hown5 p1 p2 p3 p4 Hcell Hnew
            go_wp2_with fail
            go_roundg (us.length - (j + 1))
            case measure => omega
            case rel => exact ⟨j + 1, qq ++ [(da, db)], by omega, rfl, by go_num, by simp; omega, unhide Hl5⟩
    · obtain rfl : j = us.length := by omega
      obtain rfl := (unhide Hl).done (by have := unhide Hlen; omega)
      obtain ⟨gp, _, e1, hgp, hgp'⟩ := ownsRow_some (unhide Hl).own (by simp)
      simp only [Value.slice.injEq, true_and] at e1
      obtain ⟨rfl, rfl⟩ := e1
      have c0 := ownsRow_cell (unhide Hl).own (j := 0) rfl
      have c1 := ownsRow_cell (unhide Hl).own (j := 1) rfl
      obtain ⟨r0, r1, z0, z1, lr⟩ := two_cells ((unhide HR).kept (unhide Hl).bel)
      have Hok := hide ((unhide Hl).ok c (by simp))
      have Hbw := hide ((unhide Hb1).then' (unhide Hb1).size (unhide Hl).bel)
      obtain ⟨da, db⟩ := c
      simp only at c0 c1
      go_wp2_with fail
      refine bodyPost_ret (v := .agg #[.int .i64 da, .int .u8 db]) (by simp [results, Tryz.results80, go_sem, r0, r1]) rfl ⟨rfl, unhide Hok, ?_⟩
      exact ((unhide Hbw).setCell (by simp) _).setCell (by simp) _

end Go.Proofs.YtdchbenfccofpaaGreatDoor
namespace Go.Proofs.YtdchbenfccofpaaGreatDoor
open Go.RowKit Db

set_option maxRecDepth 100000 in
set_option maxHeartbeats 4000000 in
theorem wrongKind_any (vr : Value) (vs : List Value) (pss : List (List Pt)) (B : Nat) (w : World) (h : RowsAt w B vr vs pss) (hrow : ∀ (i : Nat) ps, pss[i]? = some ps → (∃ n e, Wf n e ps) ∧ ∀ p ∈ ps, 0 ≤ p.2) (hbn : badN 0 pss < 0) (hvl : vs.length ≤ 200) :
    Calls Tryz.prog 95 #[vr] w fun e w' => e = .returned (.int .i64 (orLen (badK 0 [] pss) pss.length)) ∧ Below w.heap.size w w' := by
  obtain ⟨ii, hi, hz0, hz1, hz2⟩ := info_parts info_kind
  have Hlen := hide h.len
  obtain ⟨ao, cap, rfl⟩ := ownsRow_form h.own
  have H := hide h
  have Hrow := hide hrow
  have Hbn := hide hbn
  clear h hrow hbn
  go_enter Tryz.func95, Tryz.ntmps95
  go_wp2_with fail
  go_loopw [3, 10] (fun vk i wr => ∃ k : Nat, ∃ ks : List Int, k ≤ vs.length ∧ i = .int .i64 k ∧ ks.length = k ∧ Hid (∀ x ∈ ks, x = 0 ∨ x = 1) ∧ Hid (badK k (ks.map toR) (pss.drop k) = badK 0 [] pss) ∧
      Hid (wr.ownsRow w.heap.size 199 1 vk ks.length (ks.map (.int .i64))) ∧ Hid (Below w.heap.size w wr)) (fun _ i _ => vs.length - (intOf i).toNat)
  case atStart => exact ⟨0, [], by omega, rfl, rfl, by simp [Hid], rfl, World.ownsRow_nil _ _ _ _, Below.refl _ _⟩
  case round =>
    obtain ⟨k, ks, hk, rfl, hkl, Hkb, Hp, Ho, Hb⟩ := hrel
    obtain ⟨aok, capk, hvk⟩ := ownsRow_form (unhide Ho)
    subst hvk
    subst hkl
    have hsz := (unhide Hb).size
    by_cases hlt : ks.length < vs.length
    · obtain ⟨vk, hvk⟩ : ∃ vk, vs[ks.length]? = some vk := ⟨vs[ks.length], List.getElem?_eq_getElem hlt⟩
      obtain ⟨pk, hpk⟩ : ∃ pk, pss[ks.length]? = some pk := ⟨pss[ks.length]'(by rw [← unhide Hlen]; exact hlt), List.getElem?_eq_getElem _⟩
      have Hst := hide (badK_step (ks.map toR) hpk)
      have hrk := (unhide H).row ks.length vk pk hvk hpk
      obtain ⟨aop, capp, rfl⟩ := ownsRow_form hrk
      obtain ⟨g, _, e1, hg, hg'⟩ := ownsRow_some (unhide H).own (by omega)
      simp only [Value.slice.injEq, true_and] at e1
      obtain ⟨rfl, rfl⟩ := e1
      have c1 := ownsRow_cell (ownsRow_below (unhide H).own (unhide Hb)) (j := ks.length) hvk
      have Hrk := hide (ownsRow_below hrk (unhide Hb))
      have hro := unhide Hrow ks.length pk hpk
      obtain ⟨⟨nf, ef, hwf⟩, hpos⟩ := hro
      have hnm := badN_all pss 0 (by omega) (unhide Hbn) ks.length pk hpk
      rw [Int.zero_add] at hnm
      have Hnm : Hid (∀ p ∈ pk, oldB p.1 = true → 0 ≤ p.2 ∧ p.2.toNat < ks.length) := fun p hp ho => ⟨hpos p hp, nameB_lt hnm hpos ks.length rfl p hp ho⟩
      have Hdp : Hid (dpt pk 0 = some 1) := by
        have := wf_dpt hwf [] 0
        rw [List.append_nil] at this
        exact this
      have Hke : Hid (∃ kk, kEval (ks.map toR) pk [] = [kk]) := by
        obtain ⟨kk, hkk⟩ := wf_kind (ks.map toR) hwf
        refine ⟨kk, ?_⟩
        have := hkk [] []
        rw [List.append_nil] at this
        exact this
      have Hbd := hide ((unhide H).bd pk (List.mem_of_getElem? hpk))
      clear hrk hvk hpk hwf hpos hnm
      go_wp2_with fail
      refine (rowKind_any _ _ pk ks 0 _ (by exact (ownsRow_base (unhide Hrk) (fun _ _ => Nat.zero_le _)).alloc _) (by exact (ownsRow_base (unhide Ho) (fun _ _ => Nat.zero_le _)).alloc _) (unhide Hkb) (unhide Hnm) (unhide Hdp) (unhide Hke) (unhide Hbd)).mono ?_
      rintro e w3 ⟨kp, ok, rfl, hkp, hkind, hb3⟩
      have Hb3 : Hid (Below w.heap.size w w3) := ((unhide Hb).alloc hsz _).then' (by simp; omega) hb3
      have Ho3 := hide (ownsRow_below ((unhide Ho).alloc _) hb3)
      have hs3 := hb3.size
      simp at hs3
      have Hkp := hide hkp
      have Hkind := hide hkind
      clear hb3 hkp hkind
      cases ok with
      | false =>
        have Hv : Hid (badK 0 [] pss = ks.length) := by
          show _ = _
          rw [← unhide Hp, unhide Hst, unhide Hkind]; rfl
        go_wp2_with fail
        go_ret
        exact ⟨retI (by rw [unhide Hv, orLen_pos (by omega)]), unhide Hb3⟩
      | true =>
        have Hst2 : Hid (badK ks.length (ks.map toR) (pss.drop ks.length) = badK ((ks.length + 1 : Nat) : Int) ((ks ++ [kp]).map toR) (pss.drop (ks.length + 1))) := by
          show _ = _
          rw [unhide Hst, unhide Hkind]
          have : (toR kp == 0) = false := by rcases unhide Hkp with h | h <;> subst h <;> rfl
          simp [this]
        go_wp2_with (first
          | (at_builtin; refine wpList_append_own _ rfl (.tmp 24) (.tmp 26) 198 rfl w.heap.size 199 ii (.int .i64 0) 1 8 Tryz.underlying198 hi hz0 hz1 hz2 rfl (by decide) (.slice aok ks.length capk) ks.length _ rfl ((unhide Ho3).alloc _) ⟨w3.heap.size, 0, none⟩ 1 1 [.int .i64 kp] rfl rfl (cell_one_new _ _ _) (fun x hx => by simp at hx; subst hx; rfl) (by unfold maxLen; omega) (by omega) (by simp; omega) ?_; intro vq' w5 hown5 hgr5 _))
        have hb5 : Below w.heap.size w w5 := ((unhide Hb3).alloc (by omega) _).grown hgr5 (by simp; omega) (fun g hg => ((unhide Ho3).lt g hg).1)
        have Hown5 := hide hown5
        have Hb5 := hide hb5
        clear hown5 hgr5 hb5
        go_wp2_with fail
        go_roundw
        case rel =>
          refine ⟨ks.length + 1, ks ++ [kp], by omega, by go_num, by simp, ?_, by show _ = _; rw [← unhide Hp, unhide Hst2], ?_, unhide Hb5⟩
          · intro x hx
            simp at hx
            rcases hx with hx | rfl
            · exact unhide Hkb x hx
            · exact unhide Hkp
          · show World.ownsRow _ _ _ _ _ _ _
            simpa using unhide Hown5
        case measure => simp [intOf]; omega
    · have Hv : Hid (badK 0 [] pss = -1) := by
        show _ = _
        rw [← unhide Hp, List.drop_eq_nil_of_le (by rw [← unhide Hlen]; omega)]; rfl
      go_wp2_with fail
      go_ret
      exact ⟨retI (by rw [unhide Hv, orLen_neg (by omega), ← unhide Hlen]), unhide Hb⟩

end Go.Proofs.YtdchbenfccofpaaGreatDoor
namespace Db
theorem badP_lt (l : List (Int × Int)) : ∀ i : Int, 0 ≤ i → badP i l < i + l.length ∧ -1 ≤ badP i l := by
  induction l with
  | nil => intro i h; simp [badP]; omega
  | cons p r ih =>
    intro i h
    have := ih (i + 1) (by omega)
    unfold badP
    simp only [List.length_cons]
    split <;> omega
theorem badN_lt (l : List (List Pt)) : ∀ i : Int, 0 ≤ i → badN i l < i + l.length ∧ -1 ≤ badN i l := by
  induction l with
  | nil => intro i h; simp [badN]; omega
  | cons p r ih =>
    intro i h
    have := ih (i + 1) (by omega)
    unfold badN
    simp only [List.length_cons]
    split <;> omega
theorem badK_lt (l : List (List Pt)) : ∀ (i : Int) (ks : List Int), 0 ≤ i → badK i ks l < i + l.length ∧ -1 ≤ badK i ks l := by
  induction l with
  | nil => intro i ks h; simp [badK]; omega
  | cons p r ih =>
    intro i ks h
    have := ih (i + 1) (ks ++ [kindP ks p]) (by omega)
    unfold badK
    simp only [List.length_cons]
    split <;> omega
end Db
namespace Go.Proofs.YtdchbenfccofpaaGreatDoor
open Go.RowKit Db

theorem orLen_yes {i : Int} {n : Nat} (h : 0 ≤ i) (h2 : i < n) : orLen i n = i ∧ decide (orLen i n < (n : Int)) = true := by
  rw [orLen_pos h]; exact ⟨rfl, by simpa using h2⟩
theorem orLen_no {i : Int} {n : Nat} (h : ¬ 0 ≤ i) : orLen i n = n ∧ decide (orLen i n < (n : Int)) = false := by
  rw [orLen_neg h]; exact ⟨rfl, by simp⟩

theorem read_long (s : ByteArray) (w : World) (hs : 200 < s.size) (hm : s.size ≤ maxLen) :
    Calls Tryz.prog 57 #[.string s] w fun e w' => e = .returned (.tuple #[.agg #[.slice none 0 0, .slice none 0 0], .int .i64 1, .int .i64 0]) ∧ Below w.heap.size w w' := by
  unfold maxLen at hm
  go_enter Tryz.func57, Tryz.ntmps57
  go_wp2_with fail
  refine bodyPost_ret (v := .tuple #[.agg #[.slice none 0 0, .slice none 0 0], .int .i64 1, .int .i64 0]) (by simp [results, Tryz.results57, go_sem]) rfl ⟨rfl, ?_⟩
  exact (Below.refl _ _).alloc (Nat.le_refl _) _

/-- What Read answers to a text that is not too long. -/
def RepR (w : World) (s : ByteArray) (e : Ending) (w' : World) : Prop := Below w.heap.size w w' ∧
  ((∃ p : Int, e = .returned (.tuple #[.agg #[.slice none 0 0, .slice none 0 0], .int .i64 2, .int .i64 p]) ∧ plc 0 0 0 0 (L s) = p ∧ 0 ≤ p) ∨
   (∃ vp vr pd rows pss er pl, e = .returned (.tuple #[.agg #[vp, vr], .int .i64 er, .int .i64 pl]) ∧ Db.Form (L s) pd rows pss ∧ outc (pdv pd) pss = (er, pl) ∧
     (¬ er = 0 → vp = .slice none 0 0 ∧ vr = .slice none 0 0) ∧
     (er = 0 → w'.ownsRow w.heap.size 177 2 vp pd.length (cellsD pd) ∧ ∃ vs, RowsAt w' w.heap.size vr vs pss)))

set_option maxRecDepth 100000 in
set_option maxHeartbeats 4000000 in
theorem read_short (s : ByteArray) (w : World) (hs : s.size ≤ 200) :
    Calls Tryz.prog 57 #[.string s] w fun e w' => RepR w s e w' := by
  have d200 : decide ((200 : Int) < (s.size : Int)) = false := by simp; omega
  go_enter Tryz.func57, Tryz.ntmps57
  go_wp2_with fail
  refine (readForm_any s _ hs).mono ?_
  rintro e w1 (⟨p, rfl, hp, hp0, hb1⟩ | ⟨vp, vr, pd, rows, pss, vs, rfl, hform, hvp, hvr, hb1⟩)
  · have HB1 : Hid (Blk w1 w.heap.size #[.slice none 0 0, .slice none 0 0] 110) := (Blk.new _ _ _).kept hb1
    have Hb1 : Hid (Below w.heap.size w w1) := ((Below.refl _ _).alloc (Nat.le_refl _) _).then' (by simp) hb1
    have hs1 := hb1.size
    simp at hs1
    have Hp := hide hp
    have c0 := (unhide HB1).cell 0
    have c1 := (unhide HB1).cell 1
    have z0 := (unhide HB1).frozen 0
    have z1 := (unhide HB1).frozen 1
    have hl1 := (unhide HB1).lt
    simp only [List.getElem?_toArray, List.getElem?_cons_zero, List.getElem?_cons_succ] at c0 c1
    clear hp hb1
    go_wp2_with fail
    refine bodyPost_ret (v := .tuple #[.agg #[.slice none 0 0, .slice none 0 0], .int .i64 2, .int .i64 p]) (by simp [results, Tryz.results57, go_sem, c0, c1, hl1]) rfl ⟨?_, .inl ⟨p, rfl, unhide Hp, hp0⟩⟩
    (repeat (first | refine Below.setCell ?_ (by simp) _ | refine Below.alloc ?_ (by first | omega | (simp [World.setCell]; omega)) _ | exact unhide Hb1))
  · have HB1 : Hid (Blk w1 w.heap.size #[.slice none 0 0, .slice none 0 0] 110) := (Blk.new _ _ _).kept hb1
    have Hb1 : Hid (Below w.heap.size w w1) := ((Below.refl _ _).alloc (Nat.le_refl _) _).then' (by simp) hb1
    have hs1 := hb1.size
    simp at hs1
    have Hform := hide hform
    obtain ⟨aop, capp, rfl⟩ := ownsRow_form hvp
    obtain ⟨aor, capr, rfl⟩ := ownsRow_form hvr.own
    have Hvp := hide hvp
    have Hvr := hide hvr
    have hpm := ownsRow_len hvp
    have hrm := ownsRow_len hvr.own
    have Hrl := hide hvr.len
    unfold maxLen at hpm hrm
    clear hb1 hform hvp hvr
    -- the report in its own box
    have HBr := hide (Blk.new w1 #[.slice aop pd.length capp, .slice aor vs.length capr] 110)
    have HB2 := hide ((unhide HB1).alloc (.cells #[.slice aop pd.length capp, .slice aor vs.length capr] 110))
    have Hb2 := hide ((unhide Hb1).alloc (by omega) (.cells #[.slice aop pd.length capp, .slice aor vs.length capr] 110))
    have c0 := (unhide HB1).cell 0
    have c1 := (unhide HB1).cell 1
    have z0 := (unhide HB1).frozen 0
    have z1 := (unhide HB1).frozen 1
    have hl1 := (unhide HB1).lt
    simp only [List.getElem?_toArray, List.getElem?_cons_zero, List.getElem?_cons_succ] at c0 c1
    by_cases h4 : 4 < pd.length
    · have Ho : Hid (outc (pdv pd) pss = (3, 0)) := by show _ = _; unfold outc; rw [if_pos (.inl (by simpa [pdv] using h4))]
      have d4 : decide ((4 : Int) < (pd.length : Int)) = true := by simp; omega
      go_wp2_with fail
      refine bodyPost_ret (v := .tuple #[.agg #[.slice none 0 0, .slice none 0 0], .int .i64 3, .int .i64 0]) (by simp [results, Tryz.results57, go_sem, c0, c1, hl1]) rfl ⟨?_, .inr ⟨_, _, pd, rows, pss, 3, 0, rfl, unhide Hform, unhide Ho, fun _ => ⟨rfl, rfl⟩, fun h => by omega⟩⟩
      (repeat (first | refine Below.setCell ?_ (by simp) _ | refine Below.alloc ?_ (by first | omega | (simp [World.setCell]; omega)) _ | exact unhide Hb1))
    have d4 : decide ((4 : Int) < (pd.length : Int)) = false := by simp; omega
    by_cases h8 : 8 < vs.length
    · have Ho : Hid (outc (pdv pd) pss = (3, 0)) := by show _ = _; unfold outc; rw [if_pos (.inr (by rw [← unhide Hrl]; exact h8))]
      have d8 : decide ((8 : Int) < (vs.length : Int)) = true := by simp; omega
      go_wp2_with fail
      refine bodyPost_ret (v := .tuple #[.agg #[.slice none 0 0, .slice none 0 0], .int .i64 3, .int .i64 0]) (by simp [results, Tryz.results57, go_sem, c0, c1, hl1]) rfl ⟨?_, .inr ⟨_, _, pd, rows, pss, 3, 0, rfl, unhide Hform, unhide Ho, fun _ => ⟨rfl, rfl⟩, fun h => by omega⟩⟩
      (repeat (first | refine Below.setCell ?_ (by simp) _ | refine Below.alloc ?_ (by first | omega | (simp [World.setCell]; omega)) _ | exact unhide Hb1))
    have d8 : decide ((8 : Int) < (vs.length : Int)) = false := by simp; omega
    have Hsm : Hid (¬ (4 < (pdv pd).length ∨ 8 < pss.length)) := by show ¬ _; rw [← unhide Hrl]; simp [pdv]; omega
    clear c0 c1 z0 z1
    go_wp2_with fail
    refine (wrongPeriod_any _ pd 0 _ (by exact (ownsRow_base (unhide Hvp) (fun _ _ => Nat.zero_le _)).alloc _)).mono ?_
    rintro e w3 ⟨rfl, hb3⟩
    have Hvp2 := hide ((unhide Hvp).alloc (.cells #[.slice aop pd.length capp, .slice aor vs.length capr] 110))
    have Hvr2 := hide ((unhide Hvr).kept ((Below.refl _ _).alloc (Nat.le_refl _) (.cells #[.slice aop pd.length capp, .slice aor vs.length capr] 110)))
    have HBr2 := HBr
    have HBr3 := hide ((unhide HBr2).kept hb3)
    have HB3 := hide ((unhide HB2).kept hb3)
    have Hb3 := hide ((unhide Hb2).then' (unhide Hb2).size hb3)
    have Hvp3 := hide (ownsRow_below (unhide Hvp2) hb3)
    have Hvr3 := hide ((unhide Hvr2).kept hb3)
    have r0 := (unhide HBr3).cell 0
    have r1 := (unhide HBr3).cell 1
    have c0 := (unhide HB3).cell 0
    have c1 := (unhide HB3).cell 1
    have z0 := (unhide HB3).frozen 0
    have z1 := (unhide HB3).frozen 1
    simp only [List.getElem?_toArray, List.getElem?_cons_zero, List.getElem?_cons_succ] at r0 r1 c0 c1
    clear hb3
    obtain ⟨b4, hb4⟩ : ∃ b4, badP 0 (pdv pd) = b4 := ⟨_, rfl⟩
    rw [hb4]
    have Hbad4 := hide hb4
    have hlt4 : b4 < (pd.length : Int) := by rw [← hb4]; have := (badP_lt (pdv pd) 0 (by omega)).1; simp [pdv] at this ⊢; omega
    clear hb4
    by_cases h4 : 0 ≤ b4
    · have Ho : Hid (outc (pdv pd) pss = (4, b4)) := by
        show _ = _
        unfold outc
        rw [if_neg (unhide Hsm), unhide Hbad4, if_pos h4]
      rw [orLen_pos h4]
      go_wp2_with fail
      refine bodyPost_ret (v := .tuple #[.agg #[.slice none 0 0, .slice none 0 0], .int .i64 4, .int .i64 b4]) (by simp [results, Tryz.results57, go_sem, c0, c1]) rfl ⟨?_, .inr ⟨_, _, pd, rows, pss, 4, b4, rfl, unhide Hform, unhide Ho, fun _ => ⟨rfl, rfl⟩, fun h => by omega⟩⟩
      exact ((unhide Hb3).setCell (by simp) _).setCell (by simp) _
    rw [orLen_neg h4]
    go_wp2_with fail
    clear r0 r1 c0 c1 z0 z1
    refine (wrongName_any _ vs pss _ _ (by exact unhide Hvr3)).mono ?_
    rintro e w4 ⟨rfl, hb4⟩
    rw [← unhide Hrl]
    have HBr4 := hide ((unhide HBr3).kept hb4)
    have HB4 := hide ((unhide HB3).kept hb4)
    have Hb4 := hide ((unhide Hb3).then' (unhide Hb3).size hb4)
    have Hvp4 := hide (ownsRow_below (unhide Hvp3) hb4)
    have Hvr4 := hide ((unhide Hvr3).kept hb4)
    have r0 := (unhide HBr4).cell 0
    have r1 := (unhide HBr4).cell 1
    have c0 := (unhide HB4).cell 0
    have c1 := (unhide HB4).cell 1
    have z0 := (unhide HB4).frozen 0
    have z1 := (unhide HB4).frozen 1
    simp only [List.getElem?_toArray, List.getElem?_cons_zero, List.getElem?_cons_succ] at r0 r1 c0 c1
    clear hb4
    obtain ⟨b5, hb5⟩ : ∃ b5, badN 0 pss = b5 := ⟨_, rfl⟩
    rw [hb5]
    have Hbad5 := hide hb5
    have hlt5 : b5 < (vs.length : Int) := by rw [← hb5]; have := (badN_lt pss 0 (by omega)).1; rw [← unhide Hrl] at this; omega
    clear hb5
    by_cases h5 : 0 ≤ b5
    · have Ho : Hid (outc (pdv pd) pss = (5, b5)) := by
        show _ = _
        unfold outc
        rw [if_neg (unhide Hsm), unhide Hbad4, if_neg (show ¬ 0 ≤ b4 by omega), unhide Hbad5, if_pos h5]
      rw [orLen_pos h5]
      go_wp2_with fail
      refine bodyPost_ret (v := .tuple #[.agg #[.slice none 0 0, .slice none 0 0], .int .i64 5, .int .i64 b5]) (by simp [results, Tryz.results57, go_sem, c0, c1]) rfl ⟨?_, .inr ⟨_, _, pd, rows, pss, 5, b5, rfl, unhide Hform, unhide Ho, fun _ => ⟨rfl, rfl⟩, fun h => by omega⟩⟩
      exact ((unhide Hb4).setCell (by simp) _).setCell (by simp) _
    rw [orLen_neg h5]
    go_wp2_with fail
    clear r0 r1 c0 c1 z0 z1
    refine (wrongKind_any _ vs pss _ _ (by exact unhide Hvr4) (fun i ps hps => ?_) (by rw [unhide Hbad5]; omega) (by omega)).mono ?_
    · obtain ⟨e, he⟩ : ∃ e, rows[i]? = some e := by
        have h1 := (List.getElem?_eq_some_iff.1 hps).1
        exact ⟨rows[i]'(by rw [(unhide Hform).len]; exact h1), List.getElem?_eq_getElem _⟩
      have h2 := (unhide Hform).row i e ps he hps
      obtain ⟨n, hn⟩ := h2.wf
      exact ⟨⟨n, e, hn⟩, h2.pos⟩
    rintro e w5 ⟨rfl, hb5⟩
    rw [← unhide Hrl]
    have HBr5 := hide ((unhide HBr4).kept hb5)
    have HB5 := hide ((unhide HB4).kept hb5)
    have Hb5 := hide ((unhide Hb4).then' (unhide Hb4).size hb5)
    have Hvp5 := hide (ownsRow_below (unhide Hvp4) hb5)
    have Hvr5 := hide ((unhide Hvr4).kept hb5)
    have r0 := (unhide HBr5).cell 0
    have r1 := (unhide HBr5).cell 1
    have c0 := (unhide HB5).cell 0
    have c1 := (unhide HB5).cell 1
    have z0 := (unhide HB5).frozen 0
    have z1 := (unhide HB5).frozen 1
    simp only [List.getElem?_toArray, List.getElem?_cons_zero, List.getElem?_cons_succ] at r0 r1 c0 c1
    clear hb5
    obtain ⟨b6, hb6⟩ : ∃ b6, badK 0 [] pss = b6 := ⟨_, rfl⟩
    rw [hb6]
    have Hbad6 := hide hb6
    have hlt6 : b6 < (vs.length : Int) := by rw [← hb6]; have := (badK_lt pss 0 [] (by omega)).1; rw [← unhide Hrl] at this; omega
    clear hb6
    by_cases h6 : 0 ≤ b6
    · have Ho : Hid (outc (pdv pd) pss = (6, b6)) := by
        show _ = _
        unfold outc
        rw [if_neg (unhide Hsm), unhide Hbad4, if_neg (show ¬ 0 ≤ b4 by omega), unhide Hbad5, if_neg (show ¬ 0 ≤ b5 by omega), unhide Hbad6, if_pos h6]
      rw [orLen_pos h6]
      go_wp2_with fail
      refine bodyPost_ret (v := .tuple #[.agg #[.slice none 0 0, .slice none 0 0], .int .i64 6, .int .i64 b6]) (by simp [results, Tryz.results57, go_sem, c0, c1]) rfl ⟨?_, .inr ⟨_, _, pd, rows, pss, 6, b6, rfl, unhide Hform, unhide Ho, fun _ => ⟨rfl, rfl⟩, fun h => by omega⟩⟩
      exact ((unhide Hb5).setCell (by simp) _).setCell (by simp) _
    rw [orLen_neg h6]
    have Ho : Hid (outc (pdv pd) pss = (0, 0)) := by
      show _ = _
      unfold outc
      rw [if_neg (unhide Hsm), unhide Hbad4, if_neg (show ¬ 0 ≤ b4 by omega), unhide Hbad5, if_neg (show ¬ 0 ≤ b5 by omega), unhide Hbad6, if_neg (show ¬ 0 ≤ b6 by omega)]
    go_wp2_with fail
    refine bodyPost_ret (v := .tuple #[.agg #[.slice aop pd.length capp, .slice aor vs.length capr], .int .i64 0, .int .i64 0]) (by simp [results, Tryz.results57, go_sem, c0, c1]) rfl ⟨?_, .inr ⟨_, _, pd, rows, pss, 0, 0, rfl, unhide Hform, unhide Ho, fun h => absurd rfl h, fun _ => ⟨?_, vs, ?_⟩⟩⟩
    · exact ((unhide Hb5).setCell (by simp) _).setCell (by simp) _
    · have hlo : ∀ k, (Value.slice aop pd.length capp).ownBlock = some k → w.heap.size + 1 ≤ k := fun k hk => by have := ((unhide Hvp5).lt k hk).1; simpa using this
      exact ownsRow_base (ownsRow_setOther (ownsRow_setOther (unhide Hvp5) (fun e => by have := hlo _ e.symm; simp at this; omega) _) (fun e => by have := hlo _ e.symm; simp at this; omega) _) (fun k hk => by have := hlo k hk; omega)
    · refine RowsAt.base ((unhide Hvr5).frm (X := fun k => k = w.heap.size) (Frm.setCell (X := fun k => k = w.heap.size) (Frm.setCell (X := fun k => k = w.heap.size) (Frm.refl _ _ _) (p := ⟨w.heap.size, 0, none⟩) (.inr rfl) _) (p := ⟨w.heap.size, 1, none⟩) (.inr rfl) _) (fun k hk _ h => by simp at hk; omega)) (by simp)

end Go.Proofs.YtdchbenfccofpaaGreatDoor
namespace Go.Proofs.YtdchbenfccofpaaGreatDoor
open Go.RowKit Db

theorem info_gcells : (Tryz.prog.info? 202).map (fun i => (i.zero, i.size, i.bytes)) = some (some (.slice none 0 0), 1, 24) := by kernel_rfl
/-- One row more. -/
theorem GCells.snoc {W w5 : World} {B : Nat} {vc vc' v2 : Value} {vs : List Value} {cells : List (List Cl)} {row : List Cl} (h : GCells W B vc vs cells) (o : Obj)
    (hv : W.ownsRow B 205 2 v2 row.length (cellsG row)) (hown : w5.ownsRow B 202 1 vc' (vs.length + 1) (vs ++ [v2])) (hgr : (W.alloc o).grownBy w5 vc.ownBlock) : GCells w5 B vc' (vs ++ [v2]) (cells ++ [row]) := by
  refine ⟨by simpa using hown, by simp [h.len], ?_⟩
  intro i v c h1 h2
  by_cases hi : i < vs.length
  · rw [List.getElem?_append_left hi] at h1
    rw [List.getElem?_append_left (by rw [← h.len]; exact hi)] at h2
    exact ((h.row i v c h1 h2).alloc o).kept hgr (own_apart' (h.row i v c h1 h2) h.own (by decide))
  · rw [List.getElem?_append_right (by omega)] at h1
    rw [List.getElem?_append_right (by rw [← h.len]; omega)] at h2
    rw [← h.len] at h2
    match hk : i - vs.length, h1, h2 with
    | 0, h1, h2 =>
      simp at h1 h2
      subst h1 h2
      exact (hv.alloc o).kept hgr (own_apart' hv h.own (by decide))
    | k + 1, h1, h2 => simp at h1
theorem GCells.set {W : World} {B : Nat} {vc : Value} {vs : List Value} {cells : List (List Cl)} (h : GCells W B vc vs cells) {a : Addr} (ha : a.block < B) (u : Value) : GCells (W.setCell a u) B vc vs cells :=
  ⟨ownsRow_setCell_below h.own ha u, h.len, fun i v c h1 h2 => ownsRow_setCell_below (h.row i v c h1 h2) ha u⟩
/-- What the sheet stands on lies below B: it is not written to. -/
structure ShtIn (w : World) (q B : Nat) (b : Bk) (pd : List (List UInt8 × List UInt8)) (cells : List (List Cl)) (p : Nat) (vp vc : Value) (vs : List Value) : Prop extends ShtAt w q b pd cells p vp vc vs where
  lo : B ≤ q
  sub : ∀ w', Below B w w' → (∃ Bl, Led w' Bl p b) ∧ ∃ Bp, w'.ownsRow Bp 177 2 vp pd.length (cellsD pd)
theorem ShtIn.kept {w w' : World} {q B : Nat} {b : Bk} {pd : List (List UInt8 × List UInt8)} {cells : List (List Cl)} {p : Nat} {vp vc : Value} {vs : List Value} (h : ShtIn w q B b pd cells p vp vc vs) (hb : Below w.heap.size w w') (hB : B ≤ w.heap.size) : ShtIn w' q B b pd cells p vp vc vs :=
  ⟨h.toShtAt.kept hb, h.lo, fun w2 h2 => h.sub w2 ((hb.mono hB).trans h2)⟩
theorem ShtIn.push {w wr w5 : World} {q B : Nat} {b : Bk} {pd : List (List UInt8 × List UInt8)} {cells : List (List Cl)} {p : Nat} {vp vc vc' v2 : Value} {vs : List Value} {row : List Cl} {o : Obj} (h : ShtIn w q B b pd cells p vp vc vs) (hbr : Below w.heap.size w wr) (hB : B ≤ w.heap.size)
    (hv : wr.ownsRow w.heap.size 205 2 v2 row.length (cellsG row)) (hown : w5.ownsRow (q + 1) 202 1 vc' (vs.length + 1) (vs ++ [v2])) (hgr : (wr.alloc o).grownBy w5 vc.ownBlock) (hw : row.length = pd.length) (h8 : cells.length < 8) (hok : ∀ c ∈ row, ClOk c) :
    ShtIn (w5.setCell ⟨q, 2, none⟩ vc') q B b pd (cells ++ [row]) p vp vc' (vs ++ [v2]) ∧ Below B w (w5.setCell ⟨q, 2, none⟩ vc') := by
  have hql := h.blk.lt
  have hr := h.toShtAt.kept hbr
  have hsz := hbr.size
  have hbel : Below B w (w5.setCell ⟨q, 2, none⟩ vc') := by
    refine Below.setCell ?_ h.lo _
    exact ((hbr.mono hB).alloc (by omega) o).grown hgr (by simp; omega) (fun g hg => by have := (hr.cs.own.lt g hg).1; have := h.lo; omega)
  have hs := h.sub _ hbel
  refine ⟨⟨⟨?_, hs.1, hs.2, ?_, ?_, ⟨h.few.1, by simp; omega⟩, ?_⟩, h.lo, fun w2 h2 => h.sub w2 (hbel.trans h2)⟩, hbel⟩
  · have := ((hr.blk.alloc o).grown hgr (fun e => by have := (hr.cs.own.lt _ e.symm).1; omega)).set 2 vc'
    simpa using this
  · exact (GCells.snoc hr.cs o (own_down hv (by omega)) hown hgr).set (by simp) _
  · intro r hr'
    simp at hr'
    rcases hr' with hr' | rfl
    · exact h.wid r hr'
    · exact hw
  · intro r hr'
    simp at hr'
    rcases hr' with hr' | rfl
    · exact h.ok r hr'
    · exact hok

set_option maxRecDepth 100000 in
set_option maxHeartbeats 8000000 in
theorem sLay_any (q B : Nat) (b : Bk) (pd : List (List UInt8 × List UInt8)) (cells : List (List Cl)) (p : Nat) (vp vc : Value) (vs : List Value) (vr : Value) (ps : List Pt) (Bp : Nat) (w : World) (h : ShtIn w q B b pd cells p vp vc vs) (hB : B ≤ w.heap.size) (hp : w.ownsRow Bp 197 2 vr ps.length (cellsP ps)) (hpl : ps.length ≤ 200)
    (h8 : cells.length < 8) (hwf : ∃ n e, Wf n e ps) (hn : ∀ p ∈ ps, PtOk cells.length p) :
    Calls Tryz.prog 97 #[.pointer (some ⟨q, 0, none⟩), .agg #[vr]] w fun e w' => e = .returned (.tuple #[]) ∧ (∃ vc' vs', ShtIn w' q B b pd (cells ++ [rowP b (pdv pd) cells ps pd.length]) p vp vc' vs') ∧ Below B w w' := by
  obtain ⟨i1, hi1, hz10, hz11, hz12⟩ := info_parts info_gcell
  obtain ⟨i2, hi2, hz20, hz21, hz22⟩ := info_parts info_gcells
  obtain ⟨aor, capr, rfl⟩ := ownsRow_form hp
  obtain ⟨Bv, hper⟩ := h.per
  obtain ⟨aop, capp, rfl⟩ := ownsRow_form hper
  obtain ⟨W, hW, B1, hbW, hWs⟩ := one_new w #[.slice aor ps.length capr] 165
  have hW0 := B1.cell 0
  simp only [List.getElem?_toArray, List.getElem?_cons_zero] at hW0
  have HB1 := hide B1
  have HbW := hide hbW
  have HS := hide (h.kept hbW hB)
  obtain ⟨c0, c1, c2⟩ := three_cells (unhide HS).blk
  have hql := (unhide HS).blk.lt
  have hq0 := h.blk.lt
  have hk4 := h.few.1
  have Hp := hide (ownsRow_below hp hbW)
  have Hwk : Hid (∀ (k : Nat) (wx : World), k < pd.length → Below W.heap.size W wx → Calls Tryz.prog 133 #[.pointer (some ⟨q, 0, none⟩), .agg #[.slice aor ps.length capr], .int .i64 (k : Int)] wx fun e w' => ∃ c : Cl, e = .returned (gV c) ∧ c = cel (opE b (pdv pd) cells k) ps ∧ ClOk c ∧ Below wx.heap.size wx w') := by
    intro k wx hk hb
    obtain ⟨n, e, hwf⟩ := hwf
    refine (sWork_any q k b pd cells _ ps Bp _ wx ⟨_, _, _, _, (unhide HS).toShtAt.kept hb⟩ (ownsRow_below (unhide Hp) hb) hpl hk (val_cel hwf) hn).mono ?_
    rintro e w1 ⟨rfl, hok, hb⟩
    exact ⟨_, rfl, rfl, hok, hb⟩
  obtain ⟨aoc, capc, rfl⟩ := ownsRow_form h.cs.own
  have hv8 : vs.length < 8 := by rw [h.cs.len]; exact h8
  have HB' := hide hB
  clear B1 hbW h hper hwf hn hp
  go_enter Tryz.func97, Tryz.ntmps97
  go_wp2_with fail
  try rw [hW]
  go_loopg [4, 12] pd.length (fun m v i wx => ∃ k : Nat, k ≤ pd.length ∧ m = pd.length - k ∧ i = .int .i64 k ∧ Hid (wx.ownsRow W.heap.size 205 2 v k (cellsG (rowP b (pdv pd) cells ps k))) ∧ Hid (∀ c ∈ rowP b (pdv pd) cells ps k, ClOk c) ∧ Hid (Below W.heap.size W wx))
  case atStart => exact ⟨0, by omega, rfl, rfl, World.ownsRow_nil _ _ _ _, (fun c hc => by simp [rowP] at hc), Below.refl _ _⟩
  case round =>
    obtain ⟨k, hk, rfl, rfl, Hrw, Hok, Hbx⟩ := hrel
    obtain ⟨aov, capv, hvv⟩ := ownsRow_form (unhide Hrw)
    subst hvv
    have hszx := (unhide Hbx).size
    have w0 := kept_cell' (unhide Hbx) hW0
    have c2' := kept_cell' (unhide Hbx) c2
    have HSx := hide ((unhide HS).toShtAt.kept (unhide Hbx))
    have z2 := (unhide HSx).blk.frozen 2
    have lqx := (unhide HSx).blk.lt
    by_cases hlk : k < pd.length
    · go_wp2_with fail
      refine (unhide Hwk k _ hlk (unhide Hbx)).mono ?_
      rintro e w2 ⟨c, rfl, hc, hok, hb2⟩
      have Hc := hide hc
      have Hok2 := hide hok
      have Hrw2 := hide (ownsRow_below (unhide Hrw) hb2)
      have Hb2 := hide ((unhide Hbx).then' hszx hb2)
      have hsz2 := hb2.size
      obtain ⟨ca, cb⟩ := c
      unfold gV
      simp only
      obtain ⟨z, hz⟩ : ∃ z, gst cb = z := ⟨_, rfl⟩
      rw [hz]
      have Hz := hide hz
      clear hb2 hok hc hz
      go_wp2_with (first
        | (at_builtin; refine wpList_append_own _ rfl (.tmp 19) (.tmp 21) 202 rfl W.heap.size 205 i1 (.agg #[.int .i64 0, .int .i64 0]) 2 16 Tryz.underlying202 hi1 hz10 hz11 hz12 rfl (by decide) (.slice aov k capv) k _ rfl (((unhide Hrw2).alloc _).alloc _) ⟨w2.heap.size + 1, 0, none⟩ 1 1 [.int .i64 z, .int .i64 ca] rfl rfl (cell_two_new' _ _ (by simp) _ _ _) (fun x hx => by simp at hx; rcases hx with rfl | rfl <;> rfl) (by unfold maxLen; omega) (by omega) (by simp; omega) ?_; intro vq' w5 hown5 hgr5 _))
      have Hrw5 : Hid (w5.ownsRow W.heap.size 205 2 vq' (k + 1) (cellsG (rowP b (pdv pd) cells ps (k + 1)))) := by
        show World.ownsRow _ _ _ _ _ _ _
        rw [rowP_snoc, ← unhide Hc, cellsG_snoc]
        simp only [unhide Hz]
        exact hown5
      have Hok5 : Hid (∀ c ∈ rowP b (pdv pd) cells ps (k + 1), ClOk c) := by
        intro c hc
        rw [rowP_snoc, ← unhide Hc] at hc
        simp at hc
        rcases hc with hc | rfl
        · exact unhide Hok c hc
        · exact unhide Hok2
      have Hb5 : Hid (Below W.heap.size W w5) := (((unhide Hb2).alloc (by omega) _).alloc (by simp; omega) _).grown hgr5 (by simp; omega) (fun g hg => ((unhide Hrw2).lt g hg).1)
      clear hown5 hgr5
      go_wp2_with fail
      go_roundg (pd.length - (k + 1))
      case measure => omega
      case rel => exact ⟨k + 1, by omega, rfl, by go_num, unhide Hrw5, unhide Hok5, unhide Hb5⟩
    · obtain rfl : k = pd.length := by omega
      have hwl := rowP_len b (pdv pd) cells ps pd.length
      go_wp2_with (first
        | (at_builtin; refine wpList_append_own _ rfl (.tmp 28) (.tmp 30) 160 rfl (q + 1) 202 i2 (.slice none 0 0) 1 24 Tryz.underlying160 hi2 hz20 hz21 hz22 rfl (by decide) (.slice aoc vs.length capc) vs.length _ rfl ((unhide HSx).cs.own.alloc _) ⟨wr.heap.size, 0, none⟩ 1 1 [.slice aov pd.length capv] rfl rfl (cell_one_new _ _ _) (fun x hx => by simp at hx; subst hx; rfl) (by unfold maxLen; omega) (by omega) (by simp; omega) ?_; intro vq' w5 hown5 hgr5 _; obtain ⟨gf, cf, rfl, hgf, hgf'⟩ := ownsRow_some hown5 (Nat.succ_pos _); have hbk := ((unhide HSx).blk.alloc (.cells #[.slice aov pd.length capv] 202)).grown hgr5 (fun e => by have := ((unhide HSx).cs.own.lt _ e.symm).1; omega); have y4 := (three_cells hbk).2.2; have yz := hbk.frozen 2; have yl := hbk.lt; clear hbk))
      have hpush := (unhide HS).push (unhide Hbx) (by have := unhide HB'; omega) (row := rowP b (pdv pd) cells ps pd.length) (by rw [hwl]; exact unhide Hrw) hown5 hgr5 hwl h8 (unhide Hok)
      have HF := hide hpush.1
      have HFb := hide (((unhide HbW).mono (unhide HB')).trans hpush.2)
      clear hown5 hgr5 hpush
      go_wp2_with fail
      go_end0
      exact ⟨rfl, ⟨_, _, unhide HF⟩, unhide HFb⟩

end Go.Proofs.YtdchbenfccofpaaGreatDoor
