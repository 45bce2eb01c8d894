/- Own texts of the theorem in YtdchbenfccofpaaGreatDoorWAlY, part 21. -/
import Derived.Test.YtdchbenfccofpaaGreatDoorJ20
import Derived.Test.YtdchbenfccofpaaGreatDoorJ14
import Derived.Test.YtdchbenfccofpaaGreatDoorJ18
import Derived.Test.YtdchbenfccofpaaGreatDoorJ02
set_option maxRecDepth 100000
set_option maxHeartbeats 8000000
namespace Db
theorem nf_app : ∀ (a b : List Pt), Nf (a ++ b) → Nf b
 | [], _, h => h
 | _ :: a, b, h => nf_app a b h.2
theorem split_at' {α : Type} {l : List α} {i : Nat} {x : α} (h : l[i]? = some x) : l = l.take i ++ x :: l.drop (i + 1) := by
 obtain ⟨hi, rfl⟩ := List.getElem?_eq_some_iff.1 h
 rw [List.getElem_cons_drop, List.take_append_drop]
theorem nf_at {ps : List Pt} {i : Nat} {p : Pt} (hN : Nf ps.reverse) (h : ps[i]? = some p) : fld p (ps.take i).reverse = none := by
 have h1 := congrArg List.reverse (split_at' h)
 rw [List.reverse_append, List.reverse_cons, List.append_assoc] at h1
 rw [h1] at hN
 exact (nf_app _ _ hN).1
theorem take_rev {ps : List Pt} {i : Nat} {p : Pt} (h : ps[i]? = some p) : (ps.take (i + 1)).reverse = p :: (ps.take i).reverse := by
 rw [List.take_add_one, h]; simp
theorem nf_neg {ps : List Pt} {i : Nat} {y n : Int} (hN : Nf ps.reverse) (h : ps[i + 1]? = some (126, n)) (h1 : ps[i]? = some (48, y)) : ¬ (don 45 (0, 0) (y, 0)).2 = 0 := by
 have := nf_at hN h
 rw [take_rev h1] at this
 intro h0
 unfold fld at this
 simp [h0, show opdB 126 = false from rfl] at this
theorem nf_bin {ps : List Pt} {i : Nat} {o x y n : Int} (hN : Nf ps.reverse) (ho : opdB o = false) (h126 : (o == 126) = false) (h : ps[i + 2]? = some (o, n)) (h1 : ps[i + 1]? = some (48, y)) (h2 : ps[i]? = some (48, x)) : ¬ (don o (x, 0) (y, 0)).2 = 0 := by
 have := nf_at hN h
 rw [take_rev h1, take_rev h2] at this
 intro h0
 unfold fld at this
 simp [h0, ho, h126] at this
end Db
namespace Go.Proofs.YtdchbenfccofpaaGreatDoor
open Go.RowKit Db
theorem lit43 : Db.u8 43 = 43 := rfl
theorem lit45 : Db.u8 45 = 45 := rfl
theorem lit42 : Db.u8 42 = 42 := rfl
theorem lit47 : Db.u8 47 = 47 := rfl
theorem lit126 : Db.u8 126 = 126 := rfl
structure WdAt (w : World) (B : Nat) (v : Value) (us : List ByteArray) (ps : List Pt) : Prop where
 own : w.ownsRow B 9 1 v us.length (us.map Value.string)
 eq : us.map L = ps.map wordC
theorem WdAt.kept {w w' : World} {B : Nat} {v : Value} {us : List ByteArray} {ps : List Pt} (h : WdAt w B v us ps) (hb : Below w.heap.size w w') : WdAt w' B v us ps := ⟨oBelow h.own hb, h.eq⟩
theorem WdAt.len {w : World} {B : Nat} {v : Value} {us : List ByteArray} {ps : List Pt} (h : WdAt w B v us ps) : us.length = ps.length := by
 have := congrArg List.length h.eq
 simpa using this
theorem WdAt.at {w : World} {B g cap : Nat} {us : List ByteArray} {ps : List Pt} (h : WdAt w B (.slice (some ⟨g, 0, none⟩) us.length cap) us ps) {i : Nat} (hi : i < us.length) :
  ∃ u p, us[i]? = some u ∧ ps[i]? = some p ∧ L u = wordC p ∧ w.cell? ⟨g, i, none⟩ = some (.string u) := by
 obtain ⟨u, hu⟩ : ∃ u, us[i]? = some u := ⟨us[i], List.getElem?_eq_getElem hi⟩
 obtain ⟨p, hp⟩ : ∃ p, ps[i]? = some p := ⟨ps[i]'(by rw [← h.len]; exact hi), List.getElem?_eq_getElem _⟩
 have h1 := congrArg (fun l => l[i]?) h.eq
 simp only [List.getElem?_map, hu, hp, Option.map_some, Option.some.injEq] at h1
 exact ⟨u, p, hu, hp, h1, oCell h.own (j := i) (by rw [List.getElem?_map, hu]; rfl)⟩
theorem one_byte {u : ByteArray} {c : UInt8} (h : L u = [c]) : u = ⟨#[c]⟩ := L_inj h
theorem word_size {p : Pt} {u : ByteArray} (h : PtS p) (hu : L u = wordC p) : u.size ≤ 22 := by
 rw [size_L, hu]; exact wordC_len h.2
theorem op_five {p : Pt} (h : PtS p) (ho : opdB p.1 = false) : p.1 = 126 ∨ p.1 = 43 ∨ p.1 = 45 ∨ p.1 = 42 ∨ p.1 = 47 := by
 rcases sg_cases h.1 with h1 | h1 | ⟨_, h1⟩
 ·rw [h1] at ho; cases ho
 ·have := (u8_sel h1).2.2.2.2; rw [this] at ho; cases ho
 ·rcases h1 with h1 | h1
  ·simp [opB] at h1; omega
  ·exact .inl h1
theorem unfolded_any (B : Nat) (v : Value) (us : List ByteArray) (ps : List Pt) (w : World) (h : WdAt w B v us ps) (hP : ∀ p ∈ ps, PtS p) (hN : Nf ps.reverse) (hl : us.length ≤ 400) (h1 : 1 ≤ us.length) :
  Calls Tryz.prog 117 #[v] w fun e w' => e = .returned (.bool false) ∧ Below w.heap.size w w' := by
 obtain ⟨g, cap, rfl, hg, hg'⟩ := oSome h.own h1
 have H := hI h
 have HP := hI hP
 have HN := hI hN
 clear h hP hN
 go_enter Tryz.func117, Tryz.ntmps117
 go_wp2_with fail
 go_loopg [3] us.length (fun m i wr => ∃ j : Nat, j + 1 ≤ us.length ∧ m = us.length - j ∧ i = .int .i64 ((j + 1 : Nat) : Int) ∧ Hid (Below w.heap.size w wr))
 case atStart => exact ⟨0, by omega, rfl, rfl, Below.refl _ _⟩
 case round =>
  obtain ⟨j, hj, rfl, rfl, Hb⟩ := hrel
  have hsz := Hb.u.size
  have hji : ((j + 1 : Nat) : Int) = (j : Int) + 1 := by omega
  by_cases hlt : j + 1 < us.length
  ·have hk := H.u.kept Hb.u
   obtain ⟨u1, p1, hu1, hp1, hL1, d1⟩ := hk.at hlt
   obtain ⟨u0, p0, hu0, hp0, hL0, d0⟩ := hk.at (i := j) (by omega)
   have hP1 := HP.u p1 (List.mem_of_getElem? hp1)
   have hP0 := HP.u p0 (List.mem_of_getElem? hp0)
   have Ha1 := hI (fun wx : World => acts_any u1 wx)
   have Hw0 := hI (fun wx : World => whole_any u0 wx (by have := word_size hP0 hL0; omega))
   rw [hL1, act_word hP1] at Ha1
   rw [hL0, whl_word hP0] at Hw0
   obtain ⟨s1, n1⟩ := p1
   obtain ⟨s0, n0⟩ := p0
   simp only at Ha1 Hw0
   have hlti : (j : Int) + 1 < (us.length : Int) := by omega
   have hj400 : j ≤ 400 := by omega
   cases ho : opdB s1 with
   | true =>
    rw [ho] at Ha1
    cases h48 : (s0 == 48) with
    | true =>
     rw [h48] at Hw0
     simp only [if_true] at Hw0
     clear hk hP1 hP0 hu1 hu0 hL1 hL0
     go_wp2_with fail
     refine (Ha1.u _).mono ?_
     rintro e w1 ⟨rfl, rfl⟩
     go_wp2_with fail
     refine (Hw0.u _).mono ?_
     rintro e w1 ⟨rfl, rfl⟩
     go_wp2_with fail
     go_roundg (us.length - (j + 1))
     case measure => omega
     case rel => exact ⟨j + 1, by omega, rfl, by go_num, Hb.u⟩
    | false =>
     rw [h48] at Hw0
     simp only [Bool.false_eq_true, if_false] at Hw0
     clear hk hP1 hP0 hu1 hu0 hL1 hL0
     go_wp2_with fail
     refine (Ha1.u _).mono ?_
     rintro e w1 ⟨rfl, rfl⟩
     go_wp2_with fail
     refine (Hw0.u _).mono ?_
     rintro e w1 ⟨rfl, rfl⟩
     go_wp2_with fail
     go_roundg (us.length - (j + 1))
     case measure => omega
     case rel => exact ⟨j + 1, by omega, rfl, by go_num, Hb.u⟩
   | false =>
    rw [ho] at Ha1
    cases h48 : (s0 == 48) with
    | false =>
     rw [h48] at Hw0
     simp only [Bool.false_eq_true, if_false] at Hw0
     clear hk hP1 hP0 hu1 hu0 hL1 hL0
     go_wp2_with fail
     refine (Ha1.u _).mono ?_
     rintro e w1 ⟨rfl, rfl⟩
     go_wp2_with fail
     refine (Hw0.u _).mono ?_
     rintro e w1 ⟨rfl, rfl⟩
     go_wp2_with fail
     go_roundg (us.length - (j + 1))
     case measure => omega
     case rel => exact ⟨j + 1, by omega, rfl, by go_num, Hb.u⟩
    | true =>
     rw [h48] at Hw0
     simp only [if_true] at Hw0
     obtain rfl : s0 = 48 := by simpa using h48
     have hin0 := hP0.2
     simp only at hin0
     have hcase := op_five hP1 ho
     simp only at hcase
     have hw1 := wordC_op (p := (s1, n1)) ho
     rw [hw1] at hL1
     simp only at hL1
     rcases hcase with rfl | hc4
     ·first | rw [lit43] at hL1 | rw [lit45] at hL1 | rw [lit42] at hL1 | rw [lit47] at hL1 | rw [lit126] at hL1
      obtain rfl := one_byte hL1
      have hd := nf_neg HN.u hp1 hp0
      have Hdn := hI (fun wx : World => done_any 45 (0, 0) (n0, 0) wx rfl hin0)
      obtain ⟨d, hdd⟩ : ∃ d, don 45 (0, 0) (n0, 0) = d := ⟨_, rfl⟩
      rw [hdd] at hd Hdn
      obtain ⟨da, db⟩ := d
      simp only at hd
      have hdb : (db == 0) = false := by simpa using hd
      unfold clV at Hdn
      simp only at Hdn
      clear hk hP1 hP0 hu1 hu0 hL1 hL0 hdd hw1 ho h48
      go_wp2_with fail
      refine (Ha1.u _).mono ?_
      rintro e w1 ⟨rfl, rfl⟩
      go_wp2_with fail
      refine (Hw0.u _).mono ?_
      rintro e w1 ⟨rfl, rfl⟩
      go_wp2_with fail
      refine (Hdn.u _).mono ?_
      rintro e w2 ⟨rfl, hb2⟩
      have Hb2 := hI (Hb.u.then' hsz hb2)
      have hsz2 := Hb2.u.size
      clear hb2
      go_wp2_with fail
      go_roundg (us.length - (j + 1))
      case measure => omega
      case rel => exact ⟨j + 1, by omega, rfl, by go_num, Hb2.u.alloc hsz2 _⟩
     ·by_cases hj0 : j = 0
      ·subst hj0
       clear hk hP1 hP0 hu1 hu0 hL0 hw1 ho h48 hin0
       rcases hc4 with rfl | rfl | rfl | rfl
       all_goals
        first | rw [lit43] at hL1 | rw [lit45] at hL1 | rw [lit42] at hL1 | rw [lit47] at hL1 | rw [lit126] at hL1
        obtain rfl := one_byte hL1
        clear hL1
        go_wp2_with fail
        refine (Ha1.u _).mono ?_
        rintro e w1 ⟨rfl, rfl⟩
        go_wp2_with fail
        refine (Hw0.u _).mono ?_
        rintro e w1 ⟨rfl, rfl⟩
        go_wp2_with fail
        go_roundg (us.length - (0 + 1))
        case measure => omega
        case rel => exact ⟨0 + 1, by omega, rfl, by go_num, Hb.u⟩
      ·obtain ⟨i, rfl⟩ : ∃ i, j = i + 1 := ⟨j - 1, by omega⟩
       obtain ⟨u9, p9, hu9, hp9, hL9, d9⟩ := hk.at (i := i) (by omega)
       have hP9 := HP.u p9 (List.mem_of_getElem? hp9)
       have Hw9 := hI (fun wx : World => whole_any u9 wx (by have := word_size hP9 hL9; omega))
       rw [hL9, whl_word hP9] at Hw9
       obtain ⟨s9, n9⟩ := p9
       simp only at Hw9
       have e126 : (s1 == 126) = false := by rcases hc4 with rfl | rfl | rfl | rfl <;> rfl
       have hii : ((i + 1 : Nat) : Int) = (i : Int) + 1 := by omega
       have hgt : (1 : Int) < (i : Int) + 1 + 1 := by omega
       have hii2 : ((i + 1 + 1 : Nat) : Int) = (i : Int) + 2 := by omega
       cases h489 : (s9 == 48) with
       | false =>
        rw [h489] at Hw9
        simp only [Bool.false_eq_true, if_false] at Hw9
        clear hk hP1 hP0 hu1 hu0 hL0 hw1 ho h48 hin0 hu9 hL9 hP9 hj0
        rcases hc4 with rfl | rfl | rfl | rfl
        all_goals
         first | rw [lit43] at hL1 | rw [lit45] at hL1 | rw [lit42] at hL1 | rw [lit47] at hL1 | rw [lit126] at hL1
         obtain rfl := one_byte hL1
         clear hL1
         go_wp2_with fail
         refine (Ha1.u _).mono ?_
         rintro e w1 ⟨rfl, rfl⟩
         go_wp2_with fail
         refine (Hw0.u _).mono ?_
         rintro e w1 ⟨rfl, rfl⟩
         go_wp2_with fail
         refine (Hw9.u _).mono ?_
         rintro e w1 ⟨rfl, rfl⟩
         go_wp2_with fail
         go_roundg (us.length - (i + 1 + 1))
         case measure => omega
         case rel => exact ⟨i + 1 + 1, by omega, rfl, by go_num, Hb.u⟩
       | true =>
        rw [h489] at Hw9
        simp only [if_true] at Hw9
        obtain rfl : s9 = 48 := by simpa using h489
        have hin9 := hP9.2
        simp only at hin9
        have hd := nf_bin HN.u ho e126 hp1 hp0 hp9
        have Hdn := hI (fun wx : World => done_any s1 (n9, 0) (n0, 0) wx hin9 hin0)
        obtain ⟨d, hdd⟩ : ∃ d, don s1 (n9, 0) (n0, 0) = d := ⟨_, rfl⟩
        rw [hdd] at hd Hdn
        obtain ⟨da, db⟩ := d
        simp only at hd
        have hdb : (db == 0) = false := by simpa using hd
        unfold clV at Hdn
        simp only at Hdn
        clear hk hP1 hP0 hu1 hu0 hL0 hw1 ho h48 hin0 hu9 hL9 hP9 hj0 hdd h489
        rcases hc4 with rfl | rfl | rfl | rfl
        all_goals
         first | rw [lit43] at hL1 | rw [lit45] at hL1 | rw [lit42] at hL1 | rw [lit47] at hL1 | rw [lit126] at hL1
         obtain rfl := one_byte hL1
         clear hL1
         go_wp2_with fail
         refine (Ha1.u _).mono ?_
         rintro e w1 ⟨rfl, rfl⟩
         go_wp2_with fail
         refine (Hw0.u _).mono ?_
         rintro e w1 ⟨rfl, rfl⟩
         go_wp2_with fail
         refine (Hw9.u _).mono ?_
         rintro e w1 ⟨rfl, rfl⟩
         go_wp2_with fail
         refine (Hdn.u _).mono ?_
         rintro e w2 ⟨rfl, hb2⟩
         have Hb2 := hI (Hb.u.then' hsz hb2)
         have hsz2 := Hb2.u.size
         clear hb2
         go_wp2_with fail
         go_roundg (us.length - (i + 1 + 1))
         case measure => omega
         case rel => exact ⟨i + 1 + 1, by omega, rfl, by go_num, Hb2.u.alloc hsz2 _⟩
  ·have hge : ¬ (j : Int) + 1 < (us.length : Int) := by omega
   go_wp2_with fail
   go_ret
   exact ⟨rfl, Hb.u⟩
end Go.Proofs.YtdchbenfccofpaaGreatDoor
namespace Db
open Go Go.Proofs.YtdchbenfccofpaaGreatDoor
theorem jn_cons2 (c : UInt8) (x y : List UInt8) (r : List (List UInt8)) : jn c (x :: y :: r) = x ++ c :: jn c (y :: r) := by simp [jn]
theorem split_jn (c : UInt8) : ∀ (ws : List (List UInt8)), ws ≠ [] → (∀ w ∈ ws, ∀ x ∈ w, x ≠ c) → split (jn c ws) c = ws
 | [], h, _ => absurd rfl h
 | [x], _, h => by
  have : jn c [x] = x := by simp [jn]
  rw [this, split_one c x (h x (by simp))]
 | x :: y :: r, _, h => by
  rw [jn_cons2, split_cons c x _ (h x (by simp)), split_jn c (y :: r) (by simp) (fun w hw => h w (by simp [hw]))]
theorem itoa_bytes (n : Int) : ∀ x ∈ Lib.itoa n, digB x.toNat = true ∨ x = 45 := by
 by_cases hn : n < 0
 ·obtain ⟨u, rfl⟩ : ∃ u : Nat, n = -(u : Int) := ⟨n.natAbs, by omega⟩
  rw [Lib.itoa_neg u (by omega)]
  intro x hx
  rcases List.mem_cons.1 hx with rfl | hx
  ·exact .inr rfl
  ·exact .inl ((dec_facts u).1 x hx)
 ·obtain ⟨u, rfl⟩ : ∃ u : Nat, n = (u : Int) := ⟨n.toNat, by omega⟩
  rw [Lib.itoa_nonneg]
  exact fun x hx => .inl ((dec_facts u).1 x hx)
theorem itoa_no {n : Int} {x : UInt8} (h : x ∈ Lib.itoa n) : x ≠ 32 ∧ x ≠ 59 := by
 rcases itoa_bytes n x h with h | rfl
 ·constructor <;> (rintro rfl; exact absurd h (by decide))
 ·decide
theorem word_bytes {p : Pt} (h : PtS p) : ∀ x ∈ wordC p, x ≠ 32 ∧ x ≠ 59 := by
 obtain ⟨s, n⟩ := p
 intro x hx
 rcases sg_cases h.1 with hs | hs | ⟨h1, h2⟩
 ·simp only at hs
  subst hs
  exact itoa_no hx
 ·rw [wordC_opd hs] at hx
  rcases List.mem_cons.1 hx with rfl | hx
  ·simp only at hs ⊢
   rcases hs with hs | hs
   ·simp [selB] at hs; rcases hs with (rfl | rfl) | rfl <;> decide
   ·simp [oldB] at hs; rcases hs with rfl | rfl <;> decide
  ·exact itoa_no hx
 ·rw [wordC_op h1] at hx
  simp only [List.mem_singleton] at hx
  subst hx
  simp only at h2 ⊢
  rcases h2 with h2 | rfl
  ·simp [opB] at h2; rcases h2 with ((rfl | rfl) | rfl) | rfl <;> decide
  ·decide
theorem jn_bytes {c : UInt8} {q : UInt8 → Prop} (hc : q c) : ∀ (ws : List (List UInt8)), (∀ w ∈ ws, ∀ x ∈ w, q x) → ∀ x ∈ jn c ws, q x
 | [], _ => by simp [jn]
 | [x], h => by have : jn c [x] = x := by simp [jn]
                rw [this]; exact h x (by simp)
 | x :: y :: r, h => by
   rw [jn_cons2]
   intro z hz
   simp only [List.mem_append, List.mem_cons] at hz
   rcases hz with hz | rfl | hz
   · exact h x (by simp) z hz
   · exact hc
   · exact jn_bytes hc (y :: r) (fun w hw => h w (by simp [hw])) z hz
theorem pile_at {E : Pt → Cl} {ps : List Pt} {c : Cl} (h : ps.foldl (vStep E) (some []) = some [c]) (i : Nat) : ∃ st, (ps.take i).foldl (vStep E) (some []) = some st := by
 rw [← List.take_append_drop i ps, List.foldl_append] at h
 cases hs : (ps.take i).foldl (vStep E) (some []) with
 | some st => exact ⟨st, rfl⟩
 | none => rw [hs, fold_none] at h; cases h
theorem pile_step {E : Pt → Cl} {ps : List Pt} {i : Nat} {p : Pt} (h : ps[i]? = some p) : (ps.take (i + 1)).foldl (vStep E) (some []) = vStep E ((ps.take i).foldl (vStep E) (some [])) p := by
 rw [List.take_add_one, h]; simp
theorem step_len {E : Pt → Cl} {st st' : List Cl} {p : Pt} (h : vStep E (some st) p = some st') :
  (opdB p.1 = true → st'.length = st.length + 1) ∧ (opdB p.1 = false → p.1 = 126 → 1 ≤ st.length ∧ st'.length = st.length) ∧ (opdB p.1 = false → ¬ p.1 = 126 → 2 ≤ st.length ∧ st'.length + 1 = st.length) := by
 refine ⟨fun ho => ?_, fun ho h6 => ?_, fun ho h6 => ?_⟩
 ·simp [vStep, ho] at h; rw [← h]; simp
 ·have e : (p.1 == 126) = true := by simp [h6]
  simp only [vStep, ho, e, if_true, Bool.false_eq_true, if_false] at h
  cases st with
  | nil => cases h
  | cons x t => simp at h; rw [← h]; simp
 ·have e : (p.1 == 126) = false := by simpa using h6
  simp only [vStep, ho, e, Bool.false_eq_true, if_false] at h
  match st, h with
  | [], h => cases h
  | [x], h => cases h
  | y :: x :: t, h => simp at h; rw [← h]; simp
end Db
namespace Go.Proofs.YtdchbenfccofpaaGreatDoor
open Go.RowKit Db
theorem split_words {code : ByteArray} {ps : List Pt} {us : List ByteArray} (hc : L code = jn 32 (ps.map wordC)) (hne : ps ≠ []) (hP : ∀ p ∈ ps, PtS p) (hus : us.map L = split (L code) 32) : us.map L = ps.map wordC := by
 rw [hus, hc]
 refine split_jn 32 _ (by simpa using hne) ?_
 intro w hw x hx
 obtain ⟨p, hp, rfl⟩ := List.mem_map.1 hw
 exact (word_bytes (hP p hp) x hx).1
theorem formed_any (code t : ByteArray) (row : Nat) (ps0 ps : List Pt) (n : Nat) (w : World) (E : Pt → Cl) (c : Cl) (hc : L code = jn 32 (ps.map wordC)) (hsz : code.size ≤ 40000) (hW : ∀ p ∈ ps, WOk row p) (hN : Nf ps.reverse) (hv : ps.foldl (vStep E) (some []) = some [c]) (hwf : Wf n (L t) ps0) (hts : t.size ≤ 200) (hle : ps.length ≤ ps0.length) (h200 : ps0.length ≤ 200) :
  Calls Tryz.prog 78 #[.string code, .string t, .int .i64 (row : Int)] w fun e w' => e = .returned (.bool true) ∧ Below w.heap.size w w' := by
 have hP : ∀ p ∈ ps, PtS p := fun p hp => (hW p hp).1
 have hne : ps ≠ [] := by rintro rfl; simp at hv
 have Hsw := hI (fun (us : List ByteArray) (h : us.map L = split (L code) 32) => split_words hc hne hP h)
 have HP := hI hP
 have HW := hI hW
 have HN := hI hN
 have Hv := hI hv
 have Hpa := hI (fun wx : World => parts_any n t ps0 wx hts hwf h200)
 have hpos : 1 ≤ ps.length := by cases ps with | nil => exact absurd rfl hne | cons a r => simp
 clear hc hW hN hv hwf hP hne
 go_enter Tryz.func78, Tryz.ntmps78
 go_wp2_with fail
 refine (split_any code 32 _ (by omega)).mono ?_
 rintro e w1 ⟨v, us, rfl, hus, hown, hb1⟩
 have HD : Hid (WdAt w1 w.heap.size v us ps) := ⟨hown, Hsw.u us hus⟩
 have Hlen := hI HD.u.len
 have hul : us.length ≤ 200 := by have := Hlen.u; omega
 have hul1 : 1 ≤ us.length := by have := Hlen.u; omega
 obtain ⟨g, cap, rfl, hg, hg'⟩ := oSome hown hul1
 have Hb1 := hI hb1
 clear hus hown hb1 Hsw
 go_wp2_with fail
 go_loopg [8, 9] us.length (fun m pv i wr => ∃ j : Nat, ∃ st : List Cl, j ≤ us.length ∧ m = us.length - j ∧ i = .int .i64 j ∧ pv = .int .i64 (st.length : Int) ∧ st.length ≤ j ∧ Hid ((ps.take j).foldl (vStep E) (some []) = some st) ∧ wr = w1)
 case atStart => exact ⟨0, [], by omega, rfl, rfl, rfl, by simp, rfl, rfl⟩
 case round =>
  obtain ⟨j, st, hj, rfl, rfl, rfl, hst, Hs, rfl⟩ := hrel
  by_cases hlt : j < us.length
  ·obtain ⟨u, p, hu, hp, hL, d⟩ := HD.u.at hlt
   have hPp := HP.u p (List.mem_of_getElem? hp)
   have hWp := HW.u p (List.mem_of_getElem? hp)
   have hus := word_size hPp hL
   have Hwh := hI (fun wx : World => whole_any u wx (by omega))
   have Hch := hI (fun wx : World => chooses_any u row wx (by omega))
   have Hac := hI (fun wx : World => acts_any u wx)
   rw [hL, whl_word hPp] at Hwh
   rw [hL] at Hch
   rw [hL, act_word hPp] at Hac
   obtain ⟨st2, hst2⟩ := pile_at Hv.u (j + 1)
   have hstep := hst2
   rw [pile_step hp, Hs.u] at hstep
   have hsl := step_len hstep
   have Hs2 := hI hst2
   obtain ⟨s, nn⟩ := p
   simp only at Hwh Hac hsl
   have hlti : (j : Int) < (us.length : Int) := by omega
   rcases sg_cases hPp.1 with hs | hs | ⟨h1, h2⟩
   ·simp only at hs
    subst hs
    have hl2 := hsl.1 rfl
    simp only [beq_self_eq_true, if_true] at Hwh
    rw [show opdB 48 = true from rfl] at Hac
    obtain ⟨ch, hch⟩ : ∃ ch, choB (wordC (48, nn)) row = ch := ⟨_, rfl⟩
    rw [hch] at Hch
    clear hu hp hL hPp hWp hst2 hstep hsl hch
    go_wp2_with fail
    refine (Hwh.u _).mono ?_
    rintro e w2 ⟨rfl, rfl⟩
    go_wp2_with fail
    refine (Hch.u _).mono ?_
    rintro e w2 ⟨rfl, rfl⟩
    go_wp2_with fail
    refine (Hac.u _).mono ?_
    rintro e w2 ⟨rfl, rfl⟩
    go_wp2_with fail
    go_roundg (us.length - (j + 1))
    case measure => omega
    case rel => exact ⟨j + 1, st2, by omega, rfl, by go_num, by rw [hl2]; go_num, by omega, Hs2.u, rfl⟩
   ·have hch := cho_word hWp hs
    simp only at hs
    have h5 := u8_sel hs
    have hl2 := hsl.1 h5.2.2.2.2
    rw [h5.2.2.2.1] at Hwh
    simp only [Bool.false_eq_true, if_false] at Hwh
    rw [h5.2.2.2.2] at Hac
    rw [hch] at Hch
    clear hu hp hL hPp hWp hst2 hstep hsl hch hs h5
    go_wp2_with fail
    refine (Hwh.u _).mono ?_
    rintro e w2 ⟨rfl, rfl⟩
    go_wp2_with fail
    refine (Hch.u _).mono ?_
    rintro e w2 ⟨rfl, rfl⟩
    go_wp2_with fail
    refine (Hac.u _).mono ?_
    rintro e w2 ⟨rfl, rfl⟩
    go_wp2_with fail
    go_roundg (us.length - (j + 1))
    case measure => omega
    case rel => exact ⟨j + 1, st2, by omega, rfl, by go_num, by rw [hl2]; go_num, by omega, Hs2.u, rfl⟩
   ·simp only at h1 h2
    have hw1 := wordC_op (p := (s, nn)) h1
    have h48 : (s == 48) = false := by
     cases h8 : (s == 48) with
     | false => rfl
     | true => rw [beq_iff_eq.1 h8] at h1; cases h1
    have hch : choB (wordC (s, nn)) row = false := by rw [hw1]; rfl
    rw [hch] at Hch
    rw [h48] at Hwh
    simp only [Bool.false_eq_true, if_false] at Hwh
    rw [h1] at Hac
    rw [hw1] at hL
    simp only at hL
    have h5 := op_five hPp h1
    simp only at h5
    rcases h5 with rfl | h5
    ·obtain ⟨hl1, hl2⟩ := hsl.2.1 rfl rfl
     rw [lit126] at hL
     obtain rfl := one_byte hL
     clear hu hp hL hPp hWp hst2 hstep hsl hch hw1 h1 h2 h48
     go_wp2_with fail
     refine (Hwh.u _).mono ?_
     rintro e w2 ⟨rfl, rfl⟩
     go_wp2_with fail
     refine (Hch.u _).mono ?_
     rintro e w2 ⟨rfl, rfl⟩
     go_wp2_with fail
     refine (Hac.u _).mono ?_
     rintro e w2 ⟨rfl, rfl⟩
     go_wp2_with fail
     go_roundg (us.length - (j + 1))
     case measure => omega
     case rel => exact ⟨j + 1, st2, by omega, rfl, by go_num, by rw [hl2], by omega, Hs2.u, rfl⟩
    ·have e126 : ¬ s = 126 := by omega
     obtain ⟨hl1, hl2⟩ := hsl.2.2 h1 e126
     have hll : (st.length : Int) - 1 = (st2.length : Int) := by omega
     clear hu hp hPp hWp hst2 hstep hsl hch hw1 h1 h2 h48
     rcases h5 with rfl | rfl | rfl | rfl
     all_goals
      first | rw [lit43] at hL | rw [lit45] at hL | rw [lit42] at hL | rw [lit47] at hL
      obtain rfl := one_byte hL
      clear hL
      go_wp2_with fail
      refine (Hwh.u _).mono ?_
      rintro e w2 ⟨rfl, rfl⟩
      go_wp2_with fail
      refine (Hch.u _).mono ?_
      rintro e w2 ⟨rfl, rfl⟩
      go_wp2_with fail
      refine (Hac.u _).mono ?_
      rintro e w2 ⟨rfl, rfl⟩
      go_wp2_with fail
      go_roundg (us.length - (j + 1))
      case measure => omega
      case rel => exact ⟨j + 1, st2, by omega, rfl, by go_num, by first | rw [hll] | go_num, by omega, Hs2.u, rfl⟩
  ·obtain rfl : j = us.length := by omega
   have hs1 : st.length = 1 := by
    have h1 := Hs.u
    rw [Hlen.u, List.take_length, Hv.u] at h1
    simp at h1
    rw [← h1]; rfl
   have hs1i : (st.length : Int) = 1 := by omega
   have hle' : us.length ≤ ps0.length := by have := Hlen.u; omega
   go_wp2_with fail
   refine (Hpa.u _).mono ?_
   rintro e w2 ⟨rfl, m, rfl⟩
   have Hun := hI (unfolded_any w.heap.size _ us ps (wr.drewN m) (HD.u.kept ((Below.refl _ _).drewN m)) HP.u HN.u (by omega) hul1)
   go_wp2_with fail
   refine Hun.u.mono ?_
   rintro e w3 ⟨rfl, hb3⟩
   have Hb3 := hI ((Hb1.u.drewN m).then hb3)
   clear hb3
   go_wp2_with fail
   go_ret
   exact ⟨rfl, Hb3.u⟩
theorem cellsC_append (p q : List Cl) : cellsC (p ++ q) = cellsC p ++ cellsC q := by simp [cellsC]
theorem own_lastC {w : World} {B g cap : Nat} {e : TypeId} {q : List Cl} {x : Cl} (h : w.ownsRow B e 2 (.slice (some ⟨g, 0, none⟩) (q.length + 1) cap) (q.length + 1) (cellsC (q ++ [x]))) (d : Cl) :
  ((w.setCell ⟨g, q.length * 2, none⟩ (.int .i64 d.1)).setCell ⟨g, q.length * 2 + 1, none⟩ (.int .u8 d.2)).ownsRow B e 2 (.slice (some ⟨g, 0, none⟩) (q.length + 1) cap) (q.length + 1) (cellsC (q ++ [d])) := by
 obtain ⟨_, h2⟩ := h
 rcases h2 with ⟨h0, _⟩ | ⟨g', cap', cur, hv, hg, hh, hn, hcap, hsz, htake⟩
 ·cases h0
 ·cases hv
  refine ⟨by rw [cellsC_length]; simp, .inr ⟨g, cap, (cur.setIfInBounds (q.length * 2) (.int .i64 d.1)).setIfInBounds (q.length * 2 + 1) (.int .u8 d.2), rfl, hg, ?_, hn, hcap, by simpa using hsz, ?_⟩⟩
  ·exact Blk.set (Blk.set hh (q.length * 2) (.int .i64 d.1)) (q.length * 2 + 1) (.int .u8 d.2)
  ·rw [Array.toList_setIfInBounds, Array.toList_setIfInBounds]
   have h1 : (cur.toList.take ((q.length + 1) * 2)).take (q.length * 2) = cellsC q := by
    rw [htake, cellsC_append, List.take_append_of_le_length (by rw [cellsC_length]; omega), List.take_of_length_le (by rw [cellsC_length]; omega)]
   rw [List.take_take, show min (q.length * 2) ((q.length + 1) * 2) = q.length * 2 by omega] at h1
   have hl : q.length * 2 + 2 ≤ cur.toList.length := by
    have := congrArg List.length htake
    rw [cellsC_length] at this
    simp at this
    simp
    omega
   rw [show (q.length + 1) * 2 = q.length * 2 + 1 + 1 by omega, List.take_succ_eq_append_getElem (by simp at hl ⊢; omega), List.take_succ_eq_append_getElem (by simp at hl ⊢; omega)]
   rw [List.take_set_of_le (by omega), List.take_set_of_le (by omega), h1, cellsC_append]
   simp [cellsC]
theorem own_lessC {w : World} {B g cap : Nat} {e : TypeId} {q : List Cl} {x y : Cl} (h : w.ownsRow B e 2 (.slice (some ⟨g, 0, none⟩) (q.length + 2) cap) (q.length + 2) (cellsC (q ++ [x, y]))) :
  w.ownsRow B e 2 (.slice (some ⟨g, 0, none⟩) (q.length + 1) cap) (q.length + 1) (cellsC (q ++ [x])) := by
 obtain ⟨_, h2⟩ := h
 rcases h2 with ⟨h0, _⟩ | ⟨g', cap', cur, hv, hg, hh, hn, hcap, hsz, htake⟩
 ·cases h0
 ·cases hv
  refine ⟨by rw [cellsC_length]; simp, .inr ⟨g, cap, cur, rfl, hg, hh, by omega, hcap, hsz, ?_⟩⟩
  have h1 : (cur.toList.take ((q.length + 2) * 2)).take ((q.length + 1) * 2) = cellsC (q ++ [x]) := by
   rw [htake, show q ++ [x, y] = (q ++ [x]) ++ [y] by simp, cellsC_append (q ++ [x]), List.take_append_of_le_length (by rw [cellsC_length]; simp), List.take_of_length_le (by rw [cellsC_length]; simp)]
  rwa [List.take_take, show min ((q.length + 1) * 2) ((q.length + 2) * 2) = (q.length + 1) * 2 by omega] at h1
structure DLoop (w wr : World) (E : Pt → Cl) (ps : List Pt) (c : Cl) (j : Nat) (q : List Cl) (vq : Value) : Prop where
 ev : (ps.drop j).foldl (vStep E) (some q.reverse) = some [c]
 own : wr.ownsRow w.heap.size 139 2 vq q.length (cellsC q)
 bel : Below w.heap.size w wr
 ok : ∀ c ∈ q, ClOk c
theorem DLoop.opnd {w wr w' : World} {E : Pt → Cl} {ps : List Pt} {c : Cl} {j : Nat} {q : List Cl} {vq vq' : Value} {p : Pt} (h : DLoop w wr E ps c j q vq) (hp : ps[j]? = some p) (ho : opdB p.1 = true) (hc : ClOk (opv E p))
  (hown : w'.ownsRow w.heap.size 139 2 vq' (q.length + 1) (cellsC q ++ [.int .i64 (opv E p).1, .int .u8 (opv E p).2])) (hb : Below w.heap.size w w') : DLoop w w' E ps c (j + 1) (q ++ [opv E p]) vq' := by
 have hd := drop_cons hp
 refine ⟨?_, by rw [cellsC_snoc]; simpa using hown, hb, ?_⟩
 ·have := h.ev
  rw [hd, List.foldl_cons] at this
  simp only [vStep, ho, if_true] at this
  simpa using this
 ·intro x hx
  simp at hx
  rcases hx with hx | rfl
  ·exact h.ok x hx
  ·exact hc
theorem DLoop.one {w wr : World} {E : Pt → Cl} {ps : List Pt} {c : Cl} {j : Nat} {q : List Cl} {vq : Value} {p : Pt} (h : DLoop w wr E ps c j q vq) (hp : ps[j]? = some p) (ho : opdB p.1 = false) (h126 : p.1 = 126) : 1 ≤ q.length := by
 have hd := drop_cons hp
 have e1 : (p.1 == 126) = true := by simp [h126]
 cases hq : q with
 | cons x t => simp
 | nil =>
  have := h.ev
  rw [hd, List.foldl_cons, hq] at this
  simp only [vStep, ho, e1, if_true, Bool.false_eq_true, if_false, List.reverse_nil] at this
  rw [fold_none] at this
  cases this
theorem DLoop.two {w wr : World} {E : Pt → Cl} {ps : List Pt} {c : Cl} {j : Nat} {q : List Cl} {vq : Value} {p : Pt} (h : DLoop w wr E ps c j q vq) (hp : ps[j]? = some p) (ho : opdB p.1 = false) (h126 : ¬ p.1 = 126) : 2 ≤ q.length := by
 have hd := drop_cons hp
 have e1 : (p.1 == 126) = false := by simpa using h126
 have := h.ev
 rw [hd, List.foldl_cons] at this
 simp only [vStep, ho, e1, Bool.false_eq_true, if_false] at this
 cases hq : q.reverse with
 | nil => rw [hq] at this; simp only at this; rw [fold_none] at this; cases this
 | cons y t =>
  cases ht : t with
  | nil => rw [hq, ht] at this; simp only at this; rw [fold_none] at this; cases this
  | cons x u =>
   have := congrArg List.length hq
   rw [ht] at this
   simp at this
   omega
theorem DLoop.neg {w wr w' : World} {E : Pt → Cl} {ps : List Pt} {c : Cl} {j : Nat} {q : List Cl} {x : Cl} {vq : Value} {p : Pt} (h : DLoop w wr E ps c j (q ++ [x]) vq) (hp : ps[j]? = some p) (ho : opdB p.1 = false) (h126 : p.1 = 126)
  (hown : w'.ownsRow w.heap.size 139 2 vq (q.length + 1) (cellsC (q ++ [don 45 (0, 0) x]))) (hb : Below w.heap.size w w') : DLoop w w' E ps c (j + 1) (q ++ [don 45 (0, 0) x]) vq := by
 have hd := drop_cons hp
 have e1 : (p.1 == 126) = true := by simp [h126]
 refine ⟨?_, by simpa using hown, hb, ?_⟩
 ·have := h.ev
  rw [hd, List.foldl_cons] at this
  simp only [vStep, ho, e1, if_true, Bool.false_eq_true, if_false, List.reverse_append, List.reverse_cons, List.reverse_nil, List.nil_append, List.cons_append] at this
  simpa using this
 ·intro y hy
  simp at hy
  rcases hy with hy | rfl
  ·exact h.ok y (by simp [hy])
  ·exact don_ok (.inl ⟨rfl, rfl⟩) (h.ok x (by simp))
theorem DLoop.join {w wr w' : World} {E : Pt → Cl} {ps : List Pt} {c : Cl} {j : Nat} {q : List Cl} {x y : Cl} {vq vq' : Value} {p : Pt} (h : DLoop w wr E ps c j (q ++ [x, y]) vq) (hp : ps[j]? = some p) (ho : opdB p.1 = false) (h126 : ¬ p.1 = 126)
  (hown : w'.ownsRow w.heap.size 139 2 vq' (q.length + 1) (cellsC (q ++ [don p.1 x y]))) (hb : Below w.heap.size w w') : DLoop w w' E ps c (j + 1) (q ++ [don p.1 x y]) vq' := by
 have hd := drop_cons hp
 have e1 : (p.1 == 126) = false := by simpa using h126
 refine ⟨?_, by simpa using hown, hb, ?_⟩
 ·have := h.ev
  rw [hd, List.foldl_cons] at this
  simp only [vStep, ho, e1, Bool.false_eq_true, if_false, List.reverse_append, List.reverse_cons, List.reverse_nil, List.nil_append, List.cons_append] at this
  simpa using this
 ·intro z hz
  simp at hz
  rcases hz with hz | rfl
  ·exact h.ok z (by simp [hz])
  ·exact don_ok (h.ok x (by simp)) (h.ok y (by simp))
theorem DLoop.done {w wr : World} {E : Pt → Cl} {ps : List Pt} {c : Cl} {j : Nat} {q : List Cl} {vq : Value} (h : DLoop w wr E ps c j q vq) (hj : ps.length ≤ j) : q = [c] := by
 have := h.ev
 rw [List.drop_eq_nil_of_le hj] at this
 simp only [List.foldl_nil, Option.some.injEq] at this
 have h2 := congrArg List.reverse this
 simpa using h2
theorem run_any (g k : Nat) (s0 : Bk) (pd : List (List UInt8 × List UInt8)) (cells : List (List Cl)) (code : ByteArray) (row : Int) (ps : List Pt) (c : Cl) (w : World) (h : Grd w g s0 pd cells) (hk : k < pd.length) (hc : L code = jn 32 (ps.map wordC)) (hsz : code.size ≤ 40000) (hW : ∀ p ∈ ps, WOk row p) (hrow : row ≤ cells.length) (hl : ps.length ≤ 200)
  (hv : ps.foldl (vStep (gE s0 pd cells k)) (some []) = some [c]) :
  Calls Tryz.prog 80 #[.pointer (some ⟨g, 0, none⟩), .string code, .int .i64 (k : Int)] w fun e w' => e = .returned (clV c) ∧ ClOk c ∧ Below w.heap.size w w' := by
 obtain ⟨ii, hi, hz0, hz1, hz2⟩ := info_parts info_cell
 have hP : ∀ p ∈ ps, PtS p := fun p hp => (hW p hp).1
 have hne : ps ≠ [] := by rintro rfl; simp at hv
 have hpos : 1 ≤ ps.length := by cases ps with | nil => exact absurd rfl hne | cons a r => simp
 have Hsw := hI (fun (us : List ByteArray) (h : us.map L = split (L code) 32) => split_words hc hne hP h)
 have HW := hI hW
 have HP := hI hP
 obtain ⟨E, hE⟩ : ∃ E, gE s0 pd cells k = E := ⟨_, rfl⟩
 rw [hE] at hv
 have Hop : Hid (∀ (wx : World) (u : ByteArray) (p : Pt), Below w.heap.size w wx → p ∈ ps → (selB p.1 = true ∨ oldB p.1 = true) → L u = wordC p → Calls Tryz.prog 120 #[.pointer (some ⟨g, 0, none⟩), .string u, .int .i64 (k : Int)] wx fun e w' => e = .returned (clV (opv E p)) ∧ ClOk (opv E p) ∧ Below wx.heap.size wx w') := by
  intro wx u p hb hpm ho hu
  have hw := hW p hpm
  have := gOperand_any u g k s0 pd cells wx p (by rw [hu]; exact opnd_wordC hw ho) (h.kept hb) hk (fun hold => by have := hw.2.2 hold; omega)
  rw [hE] at this
  exact this
 have Hv := hI hv
 clear h hW hP hne hv hE hc
 go_enter Tryz.func80, Tryz.ntmps80
 go_wp2_with fail
 refine (split_any code 32 _ (by omega)).mono ?_
 rintro e w1 ⟨v, us, rfl, hus, hown, hb1⟩
 have HD : Hid (WdAt w1 (w.alloc (.cells #[.int .i64 0, .int .u8 0] 139)).heap.size v us ps) := ⟨hown, Hsw.u us hus⟩
 have Hlen := hI HD.u.len
 have hul : us.length ≤ 200 := by have := Hlen.u; omega
 have hul1 : 1 ≤ us.length := by have := Hlen.u; omega
 obtain ⟨gu, cap, rfl, hg, hg'⟩ := oSome hown hul1
 have HR := hI ((Blk.new w #[.int .i64 0, .int .u8 0] 139).kept hb1)
 have Hb1 : Hid (Below w.heap.size w w1) := ((Below.refl _ _).alloc (Nat.le_refl _) _).then' (by simp) hb1
 have hs1 := hb1.size
 simp at hs1
 clear hus hown hb1 Hsw
 go_wp2_with fail
 go_loopg [8, 9] us.length (fun m vq i wr => ∃ j : Nat, ∃ q : List Cl, j ≤ us.length ∧ m = us.length - j ∧ i = .int .i64 j ∧ q.length ≤ j ∧ Hid (DLoop w1 wr E ps c j q vq))
 case atStart => exact ⟨0, [], by omega, rfl, rfl, by simp, ⟨Hv.u, World.ownsRow_nil _ _ _ _, Below.refl _ _, by simp⟩⟩
 case round =>
  obtain ⟨j, q, hj, rfl, rfl, hq, Hl⟩ := hrel
  obtain ⟨aoq, capq, hvq⟩ := oForm Hl.u.own
  subst hvq
  have hsz := Hl.u.bel.size
  by_cases hlt : j < us.length
  ·obtain ⟨u, p, hu, hpj, hL, d0⟩ := HD.u.at hlt
   have hPp := HP.u p (List.mem_of_getElem? hpj)
   have hWp := HW.u p (List.mem_of_getElem? hpj)
   have hmem := List.mem_of_getElem? hpj
   have hus := word_size hPp hL
   have d := kept_cell' Hl.u.bel d0
   have Hwh := hI (fun wx : World => whole_any u wx (by omega))
   have Hac := hI (fun wx : World => acts_any u wx)
   rw [hL, whl_word hPp] at Hwh
   rw [hL, act_word hPp] at Hac
   obtain ⟨s, n⟩ := p
   simp only at Hwh Hac
   have Hpj := hI hpj
   have hlti : (j : Int) < (us.length : Int) := by omega
   have Hbw := hI (Hb1.u.then' Hb1.u.size Hl.u.bel)
   rcases sg_cases hPp.1 with hs | hs | ⟨h1, h2⟩
   ·simp only at hs
    subst hs
    simp only [beq_self_eq_true, if_true] at Hwh
    rw [show opdB 48 = true from rfl] at Hac
    have hin := hPp.2
    simp only at hin
    have Hok : Hid (ClOk (opv E (48, n))) := .inl ⟨rfl, hin⟩
    clear hu hpj hL hPp hWp hmem d0
    go_wp2_with fail
    refine (Hwh.u _).mono ?_
    rintro e w2 ⟨rfl, rfl⟩
    go_wp2_with fail
    refine (Hac.u _).mono ?_
    rintro e w2 ⟨rfl, rfl⟩
    go_wp2_with (first
     | (at_builtin; refine wpList_append_own _ rfl (.tmp 52) (.tmp 55) 141 rfl w1.heap.size 139 ii (.agg #[.int .i64 0, .int .u8 0]) 2 16 Tryz.underlying141 hi hz0 hz1 hz2 rfl (by decide) (.slice aoq q.length capq) q.length _ rfl (Hl.u.own.alloc _) ⟨w2.heap.size, 0, none⟩ 1 1 [.int .i64 n, .int .u8 0] rfl rfl (cell_two_new' _ _ rfl _ _ _) (fun x hx => by simp at hx; rcases hx with rfl | rfl <;> rfl) (by unfold maxLen; omega) (by omega) (by simp; omega) ?_; intro vq' w5 hown5 hgr5 _; obtain ⟨gf, cf, rfl, hgf, hgf'⟩ := oSome hown5 (Nat.succ_pos _)))
    have hb5 : Below w1.heap.size w1 w5 := (Hl.u.bel.alloc (by omega) _).grown hgr5 (by simp; omega) (fun g hg => (Hl.u.own.lt g hg).1)
    have Hl5 := hI (Hl.u.opnd Hpj.u rfl Hok.u hown5 hb5)
    clear hown5 hgr5 hb5
    go_wp2_with fail
    go_roundg (us.length - (j + 1))
    case measure => omega
    case rel => exact ⟨j + 1, q ++ [(n, 0)], by omega, rfl, by go_num, by simp; omega, Hl5.u⟩
   ·have Hcall := hI (Hop.u _ u (s, n) Hbw.u hmem hs hL)
    simp only at hs
    have h5 := u8_sel hs
    rw [h5.2.2.2.1] at Hwh
    simp only [Bool.false_eq_true, if_false] at Hwh
    rw [h5.2.2.2.2] at Hac
    have Hnew : Hid (∀ {w' : World} {vq' : Value}, ClOk (opv E (s, n)) → w'.ownsRow w1.heap.size 139 2 vq' (q.length + 1) (cellsC q ++ [.int .i64 (opv E (s, n)).1, .int .u8 (opv E (s, n)).2]) → Below w1.heap.size w1 w' → DLoop w1 w' E ps c (j + 1) (q ++ [opv E (s, n)]) vq') := fun h1 h2 h3 => Hl.u.opnd Hpj.u h5.2.2.2.2 h1 h2 h3
    obtain ⟨dd, hdd⟩ : ∃ dd, opv E (s, n) = dd := ⟨_, rfl⟩
    rw [hdd] at Hcall Hnew
    obtain ⟨da, db⟩ := dd
    unfold clV at Hcall
    simp only at Hcall Hnew
    clear hu hpj hL hPp hWp hmem d0 hdd hs h5
    go_wp2_with fail
    refine (Hwh.u _).mono ?_
    rintro e w2 ⟨rfl, rfl⟩
    go_wp2_with fail
    refine (Hac.u _).mono ?_
    rintro e w2 ⟨rfl, rfl⟩
    go_wp2_with fail
    refine Hcall.u.mono ?_
    rintro e w4 ⟨rfl, hok4, hb4⟩
    have Hok4 := hI hok4
    have Hb4 := hI (Hl.u.bel.then' hsz hb4)
    have Hq4 := hI (oBelow Hl.u.own hb4)
    have hb4s := hb4.size
    clear hb4 hok4 Hcall
    go_wp2_with (first
     | (at_builtin; refine wpList_append_own _ rfl (.tmp 46) (.tmp 48) 141 rfl w1.heap.size 139 ii (.agg #[.int .i64 0, .int .u8 0]) 2 16 Tryz.underlying141 hi hz0 hz1 hz2 rfl (by decide) (.slice aoq q.length capq) q.length _ rfl ((Hq4.u.alloc _).alloc _) ⟨w4.heap.size + 1, 0, none⟩ 1 1 [.int .i64 da, .int .u8 db] rfl rfl (cell_two_new' _ _ (by simp) _ _ _) (fun x hx => by simp at hx; rcases hx with rfl | rfl <;> rfl) (by unfold maxLen; omega) (by omega) (by simp; omega) ?_; intro vq' w5 hown5 hgr5 _; obtain ⟨gf, cf, rfl, hgf, hgf'⟩ := oSome hown5 (Nat.succ_pos _)))
    have hb5 : Below w1.heap.size w1 w5 := ((Hb4.u.alloc (by omega) _).alloc (by simp; omega) _).grown hgr5 (by simp; omega) (fun g hg => (Hq4.u.lt g hg).1)
    have Hl5 := hI (Hnew.u Hok4.u hown5 hb5)
    clear hown5 hgr5 hb5
    go_wp2_with fail
    go_roundg (us.length - (j + 1))
    case measure => omega
    case rel => exact ⟨j + 1, q ++ [(da, db)], by omega, rfl, by go_num, by simp; omega, Hl5.u⟩
   ·simp only at h1 h2
    have hw1 := wordC_op (p := (s, n)) h1
    have h48 : (s == 48) = false := by
     cases h8 : (s == 48) with
     | false => rfl
     | true => rw [beq_iff_eq.1 h8] at h1; cases h1
    rw [h48] at Hwh
    simp only [Bool.false_eq_true, if_false] at Hwh
    rw [h1] at Hac
    rw [hw1] at hL
    simp only at hL
    have h5 := op_five hPp h1
    simp only at h5
    rcases h5 with rfl | h5
    ·have hq1 := Hl.u.one Hpj.u rfl rfl
     obtain ⟨qq, x, rfl⟩ := snocG1 q hq1
     obtain ⟨xa, xb⟩ := x
     have hlen : (qq ++ [(xa, xb)]).length = qq.length + 1 := by simp
     simp only [hlen] at hq Hl ⊢
     obtain ⟨gp, _, e1, hgp, hgp'⟩ := oSome Hl.u.own (by simp)
     simp only [hlen, Value.slice.injEq, true_and] at e1
     obtain ⟨rfl, rfl⟩ := e1
     have Hown : Hid (wr.ownsRow w1.heap.size 139 2 (.slice (some ⟨gp, 0, none⟩) (qq.length + 1) capq) (qq.length + 1) (cellsC (qq ++ [(xa, xb)]))) := by have := Hl.u.own; rw [hlen] at this; exact this
     have Hcell : Hid (∀ wx : World, wx.ownsRow w1.heap.size 139 2 (.slice (some ⟨gp, 0, none⟩) (qq.length + 1) capq) (qq.length + 1) (cellsC (qq ++ [(xa, xb)])) → wx.cell? ⟨gp, qq.length * 2, none⟩ = some (.int .i64 xa) ∧ wx.cell? ⟨gp, qq.length * 2 + 1, none⟩ = some (.int .u8 xb)) := fun wx hw =>
      ⟨oCell hw (j := qq.length * 2) (u := .int .i64 xa) (by rw [cellsC_append, List.getElem?_append_right (by rw [cellsC_length]; omega), cellsC_length]; simp [cellsC]), oCell hw (j := qq.length * 2 + 1) (u := .int .u8 xb) (by rw [cellsC_append, List.getElem?_append_right (by rw [cellsC_length]; omega), cellsC_length]; simp [cellsC])⟩
     obtain ⟨p1, p2⟩ := Hcell.u wr Hown.u
     have Hdn := hI (fun wx : World => done_any 45 (0, 0) (xa, xb) wx rfl (clOk_in (Hl.u.ok (xa, xb) (by simp))))
     have Hnew : Hid (∀ {w' : World}, w'.ownsRow w1.heap.size 139 2 (.slice (some ⟨gp, 0, none⟩) (qq.length + 1) capq) (qq.length + 1) (cellsC (qq ++ [don 45 (0, 0) (xa, xb)])) → Below w1.heap.size w1 w' → DLoop w1 w' E ps c (j + 1) (qq ++ [don 45 (0, 0) (xa, xb)]) (.slice (some ⟨gp, 0, none⟩) (qq.length + 1) capq)) := fun h2 h3 => Hl.u.neg Hpj.u rfl rfl h2 h3
     obtain ⟨dd, hdd⟩ : ∃ dd, don 45 (0, 0) (xa, xb) = dd := ⟨_, rfl⟩
     rw [hdd] at Hdn Hnew
     obtain ⟨da, db⟩ := dd
     unfold clV at Hdn
     simp only at Hdn
     rw [lit126] at hL
     obtain rfl := one_byte hL
     clear hu hpj hL hPp hWp hmem d0 hdd h1 h2 hw1 h48 hlen hq1
     go_wp2_with fail
     refine (Hwh.u _).mono ?_
     rintro e w2 ⟨rfl, rfl⟩
     go_wp2_with fail
     refine (Hac.u _).mono ?_
     rintro e w2 ⟨rfl, rfl⟩
     go_wp2_with fail
     refine (Hdn.u _).mono ?_
     rintro e w4 ⟨rfl, hb4⟩
     have Hq4 := hI (oBelow Hown.u hb4)
     have Hb4 := hI (Hl.u.bel.then' hsz hb4)
     have hb4s := hb4.size
     have z0 := oFrozen Hq4.u (qq.length * 2)
     have z1 := oFrozen Hq4.u (qq.length * 2 + 1)
     have hown5 := own_lastC Hq4.u (da, db)
     have Hl5 := hI (Hnew.u hown5 ((Hb4.u.setCell (by show w1.heap.size ≤ gp; exact hgp) _).setCell (by show w1.heap.size ≤ gp; exact hgp) _))
     obtain ⟨r1, r2⟩ := Hcell.u w4 Hq4.u
     clear hb4 p1 p2 hown5 Hcell Hnew
     go_wp2_with fail
     go_roundg (us.length - (j + 1))
     case measure => omega
     case rel => exact ⟨j + 1, qq ++ [(da, db)], by omega, rfl, by go_num, by simp; omega, Hl5.u⟩
    ·have e126 : ¬ s = 126 := by omega
     have hq2 := Hl.u.two Hpj.u h1 e126
     obtain ⟨qq, x, y, rfl⟩ := snocG2 q hq2
     obtain ⟨xa, xb⟩ := x
     obtain ⟨ya, yb⟩ := y
     have hlen : (qq ++ [(xa, xb), (ya, yb)]).length = qq.length + 2 := by simp
     simp only [hlen] at hq Hl ⊢
     obtain ⟨gp, _, e1, hgp, hgp'⟩ := oSome Hl.u.own (by simp)
     simp only [hlen, Value.slice.injEq, true_and] at e1
     obtain ⟨rfl, rfl⟩ := e1
     have Hown : Hid (wr.ownsRow w1.heap.size 139 2 (.slice (some ⟨gp, 0, none⟩) (qq.length + 2) capq) (qq.length + 2) (cellsC (qq ++ [(xa, xb), (ya, yb)]))) := by have := Hl.u.own; rw [hlen] at this; exact this
     have Hcell : Hid (∀ wx : World, wx.ownsRow w1.heap.size 139 2 (.slice (some ⟨gp, 0, none⟩) (qq.length + 2) capq) (qq.length + 2) (cellsC (qq ++ [(xa, xb), (ya, yb)])) → wx.cell? ⟨gp, qq.length * 2, none⟩ = some (.int .i64 xa) ∧ wx.cell? ⟨gp, qq.length * 2 + 1, none⟩ = some (.int .u8 xb) ∧ wx.cell? ⟨gp, (qq.length + 1) * 2, none⟩ = some (.int .i64 ya) ∧ wx.cell? ⟨gp, (qq.length + 1) * 2 + 1, none⟩ = some (.int .u8 yb)) := by
      intro wx hw
      have hcc : ∀ (k : Nat) (v : Value), [Value.int .i64 xa, .int .u8 xb, .int .i64 ya, .int .u8 yb][k]? = some v → (cellsC (qq ++ [(xa, xb), (ya, yb)]))[qq.length * 2 + k]? = some v := by
       intro k v hk
       rw [cellsC_append, List.getElem?_append_right (by rw [cellsC_length]; omega), cellsC_length, show qq.length * 2 + k - qq.length * 2 = k by omega]
       exact hk
      exact ⟨oCell hw (j := qq.length * 2) (hcc 0 _ rfl), oCell hw (j := qq.length * 2 + 1) (hcc 1 _ rfl), oCell hw (j := (qq.length + 1) * 2) (by rw [show (qq.length + 1) * 2 = qq.length * 2 + 2 by omega]; exact hcc 2 _ rfl), oCell hw (j := (qq.length + 1) * 2 + 1) (by rw [show (qq.length + 1) * 2 + 1 = qq.length * 2 + 3 by omega]; exact hcc 3 _ rfl)⟩
     have Hjn := hI (fun wx : World => done_any s (xa, xb) (ya, yb) wx (clOk_in (Hl.u.ok (xa, xb) (by simp))) (clOk_in (Hl.u.ok (ya, yb) (by simp))))
     have Hnew : Hid (∀ {w' : World}, w'.ownsRow w1.heap.size 139 2 (.slice (some ⟨gp, 0, none⟩) (qq.length + 1) capq) (qq.length + 1) (cellsC (qq ++ [don s (xa, xb) (ya, yb)])) → Below w1.heap.size w1 w' → DLoop w1 w' E ps c (j + 1) (qq ++ [don s (xa, xb) (ya, yb)]) (.slice (some ⟨gp, 0, none⟩) (qq.length + 1) capq)) := fun h2 h3 => Hl.u.join Hpj.u h1 e126 h2 h3
     obtain ⟨dd, hdd⟩ : ∃ dd, don s (xa, xb) (ya, yb) = dd := ⟨_, rfl⟩
     rw [hdd] at Hjn Hnew
     obtain ⟨da, db⟩ := dd
     unfold clV at Hjn
     simp only at Hjn
     obtain ⟨p1, p2, p3, p4⟩ := Hcell.u wr Hown.u
     obtain ⟨cu, hcu⟩ : ∃ cu : UInt8, u = ⟨#[cu]⟩ ∧ (cu.toNat : Int) = s := by
      refine ⟨Db.u8 s, one_byte hL, ?_⟩
      exact (u8_op h2).1
     obtain ⟨rfl, hcs⟩ := hcu
     have hcu0 : ((⟨#[cu]⟩ : ByteArray).size) = 1 := rfl
     have e2 : (qq.length : Int) + 2 - 1 = (qq.length : Int) + 1 := by omega
     have e3 : (qq.length : Int) + 2 - 2 = (qq.length : Int) := by omega
     have wq0 : IntKind.i64.wrap (qq.length : Int) = qq.length := by rw [IntKind.wrap_i64]; omega
     have wq1 : IntKind.i64.wrap ((qq.length : Int) + 1) = (qq.length : Int) + 1 := by rw [IntKind.wrap_i64]; omega
     have tq1 : ((qq.length : Int) + 1).toNat = qq.length + 1 := by omega
     have tq0 : (qq.length : Int).toNat = qq.length := by omega
     have lq1 : (0 : Int) ≤ (qq.length : Int) + 1 := by omega
     have lq0 : (0 : Int) ≤ (qq.length : Int) := by omega
     have lq3 : (qq.length : Int) < (qq.length : Int) + 2 := by omega
     have lq2 : (qq.length : Int) + 1 < (qq.length : Int) + 2 := by omega
     have hgul : gu < wr.heap.size := by omega
     have hne1 : wr.heap.size ≠ gu := by omega
     have hne2 : wr.heap.size ≠ gp := by omega
     have hcap : qq.length + 1 ≤ capq := by
      rcases Hown.u.2 with ⟨h0, _⟩ | ⟨g', cap', cur, hv, _, _, hn, _⟩
      ·cases h0
      ·cases hv; omega
     have hnt : ¬ cu.toNat = 126 := by omega
     have hnt2 : (cu == 126) = false := by rw [beq_eq_false_iff_ne]; rintro rfl; exact hnt rfl
     clear hu hpj hL hPp hWp hmem d0 hdd h1 h2 hw1 h48 hlen hq2 e126 h5
     go_wp2_with fail
     refine (Hwh.u _).mono ?_
     rintro e w2 ⟨rfl, rfl⟩
     go_wp2_with fail
     refine (Hac.u _).mono ?_
     rintro e w2 ⟨rfl, rfl⟩
     go_upto_region 16 with fail
     obtain ⟨u, hu', hz', hi0⟩ : ∃ u : ByteArray, (⟨#[cu]⟩ : ByteArray) = u ∧ ∃ hz' : 0 < u.size, (u[0].toNat : Int) = s := ⟨⟨#[cu]⟩, rfl, Nat.zero_lt_one, hcs⟩
     rw [hu'] at d ⊢
     clear hu' hcu0
     have HCA := hI (fun (w4 : World) => cutQA (w3 := w2) (w4 := w4) (a := .int .i64 da) (b := .int .u8 db) (a0 := .int .i64 0) (b0 := .int .u8 0) (T := 139))
     have HCB := hI (fun (w4 : World) => cutQB (w3 := w2) (w4 := w4) (a := .int .i64 da) (b := .int .u8 db) (T := 139))
     go_cut [14] (fun vj wx => ∃ gd : Nat, vj = .pointer (some ⟨gd, 0, none⟩) ∧ CutQ w2 wx gd (.int .i64 da) (.int .u8 db) 139)
     case first =>
      have hcall := Hjn.u
      clear hq Hl Hcell Hpj Hnew Hop Hjn HD HP HW Hv Hlen Hown HR Hb1 Hbw Hwh Hac
      go_region_held3 (fun w' => w'.cell? ⟨gu, j, none⟩ = some (.string u) ∧ w'.cell? ⟨gp, qq.length * 2, none⟩ = some (.int .i64 xa) ∧ w'.cell? ⟨gp, qq.length * 2 + 1, none⟩ = some (.int .u8 xb) ∧ w'.cell? ⟨gp, (qq.length + 1) * 2, none⟩ = some (.int .i64 ya) ∧ w'.cell? ⟨gp, (qq.length + 1) * 2 + 1, none⟩ = some (.int .u8 yb)) (first | go_keep | exact ⟨kept_cell' hb4 (by simp [*]), kept_cell' hb4 (by simp [*]), kept_cell' hb4 (by simp [*]), kept_cell' hb4 (by simp [*]), kept_cell' hb4 (by simp [*])⟩ | exact ⟨kept_al hb4 (by simp [*]), kept_al hb4 (by simp [*]), kept_al hb4 (by simp [*]), kept_al hb4 (by simp [*]), kept_al hb4 (by simp [*])⟩) (first | (go_at_call 119; refine (hcall _).mono ?_; rintro e w4 ⟨rfl, hb4⟩; have k0 := fun h => hb4.cell (p := ⟨w2.heap.size, 0, none⟩) h; have k1 := fun h => hb4.cell (p := ⟨w2.heap.size, 1, none⟩) h; have y0 := fun h => hb4.frozen (p := ⟨w2.heap.size, 0, none⟩) h; have y1 := fun h => hb4.frozen (p := ⟨w2.heap.size, 1, none⟩) h; simp at k0 k1 y0 y1))
      all_goals (try go_wp2_with fail)
      all_goals go_meet
      all_goals first
       | exact ⟨w2.heap.size, rfl, HCA.u w4 hb4⟩
       | exact ⟨w4.heap.size, rfl, HCB.u w4 hb4⟩
     case rest =>
      obtain ⟨gd, rfl, hr⟩ := hcut
      have Hb5 := hI (Hl.u.bel.then' hsz hr.bel)
      have Hq5 := hI (oBelow Hown.u hr.bel)
      obtain ⟨m0, m1, _, _, lm⟩ := two_cells hr.blk
      have hszc := hr.bel.size
      have hown5 := own_lastC (own_lessC Hq5.u) (da, db)
      have Hl5 := hI (Hnew.u hown5 ((Hb5.u.setCell (by show w1.heap.size ≤ gp; exact hgp) _).setCell (by show w1.heap.size ≤ gp; exact hgp) _))
      have z0 := oFrozen Hq5.u (qq.length * 2)
      have z1 := oFrozen Hq5.u (qq.length * 2 + 1)
      obtain ⟨r1, r2, r3, r4⟩ := Hcell.u _ Hq5.u
      clear hr hown5 p1 p2 p3 p4 Hcell Hnew
      go_wp2_with fail
      go_roundg (us.length - (j + 1))
      case measure => omega
      case rel => exact ⟨j + 1, qq ++ [(da, db)], by omega, rfl, by go_num, by simp; omega, Hl5.u⟩
  ·obtain rfl : j = us.length := by omega
   obtain rfl := Hl.u.done (by have := Hlen.u; omega)
   obtain ⟨gp, _, e1, hgp, hgp'⟩ := oSome Hl.u.own (by simp)
   simp only [Value.slice.injEq, true_and] at e1
   obtain ⟨rfl, rfl⟩ := e1
   have c0 := oCell Hl.u.own (j := 0) rfl
   have c1 := oCell Hl.u.own (j := 1) rfl
   obtain ⟨r0, r1, z0, z1, lr⟩ := two_cells (HR.u.kept Hl.u.bel)
   have Hok := hI (Hl.u.ok c (by simp))
   have Hbw := hI (Hb1.u.then' Hb1.u.size Hl.u.bel)
   obtain ⟨da, db⟩ := c
   simp only at c0 c1
   go_wp2_with fail
   refine bodyPost_ret (v := .agg #[.int .i64 da, .int .u8 db]) (by simp [results, Tryz.results80, go_sem, r0, r1]) rfl ⟨rfl, Hok.u, ?_⟩
   exact (Hbw.u.setCell (by simp) _).setCell (by simp) _
theorem repCompile_any (vp vr : Value) (vs : List Value) (pss : List (List Pt)) (B : Nat) (w : World) (ap : Option Addr) (np kp : Nat) (hvp : vp = .slice ap np kp) (hr : RowsAt w B vr vs pss) (h8 : pss.length ≤ 8) (hps : ∀ ps ∈ pss, ∀ p ∈ ps, PtS p) (ht : Tab w) :
  Calls Tryz.prog 73 #[.agg #[vp, vr]] w fun e w' => ∃ u : ByteArray, e = .returned (.string u) ∧ L u = jn 59 (pss.map codT) ∧ u.size ≤ 40000 ∧ Below w.heap.size w w' := by
 subst hvp
 obtain ⟨aor, capr, rfl⟩ := oForm hr.own
 have Hr := hI hr
 have Hps := hI hps
 have Ht := hI ht
 have hvl : vs.length ≤ 8 := by rw [hr.len]; exact h8
 have Hlen := hI hr.len
 clear hr hps ht
 go_enter Tryz.func73, Tryz.ntmps73
 go_wp2_with fail
 go_loopg [3, 9] vs.length (fun m tv i wx => ∃ k : Nat, ∃ u : ByteArray, k ≤ vs.length ∧ m = vs.length - k ∧ i = .int .i64 k ∧ tv = .string u ∧ u.size ≤ 4601 * k ∧ Hid (L u = jn 59 ((pss.map codT).take k)) ∧ Hid (Below w.heap.size w wx))
 case atStart => exact ⟨0, ⟨#[]⟩, by omega, rfl, rfl, rfl, Nat.zero_le _, rfl, (Below.refl _ _).alloc (Nat.le_refl _) _⟩
 case round =>
  obtain ⟨k, u, hk, rfl, rfl, rfl, hus, Hu, Hbx⟩ := hrel
  have hszx := Hbx.u.size
  by_cases hlk : k < vs.length
  ·obtain ⟨v, hv⟩ : ∃ v, vs[k]? = some v := ⟨vs[k], List.getElem?_eq_getElem hlk⟩
   obtain ⟨ps, hpk⟩ : ∃ ps, pss[k]? = some ps := ⟨pss[k]'(by have := Hlen.u; omega), List.getElem?_eq_getElem _⟩
   obtain ⟨g, _, e1, hg, hg'⟩ := oSome Hr.u.own (by omega)
   simp only [Value.slice.injEq, true_and] at e1
   obtain ⟨rfl, rfl⟩ := e1
   have d := oCell (oBelow Hr.u.own Hbx.u) (j := k) hv
   have hrw := Hr.u.row k v ps hv hpk
   have hpl := Hr.u.bd ps (List.mem_of_getElem? hpk)
   obtain ⟨aov, capv, rfl⟩ := oForm hrw
   have Hxc : Hid ((pss.map codT)[k]? = some (codT ps)) := by show _ = _; rw [List.getElem?_map, hpk]; rfl
   have Hcw := hI (fun (o : Obj) => compileRow_any (.slice aov ps.length capv) ps B (wr.alloc o) ((oBelow hrw Hbx.u).alloc o) (Hps.u ps (List.mem_of_getElem? hpk)) hpl (Ht.u.below (Hbx.u.alloc hszx o)))
   clear hv hpk hrw
   by_cases hk0 : k = 0
   ·have hk1 : ¬ (0 : Int) < (k : Int) := by omega
    have Hk0 := hI hk0
    clear hk0
    go_wp2_with fail
    refine (Hcw.u _).mono ?_
    rintro e w6 ⟨u6, rfl, hu6, hs6, hb6⟩
    have Hu6 : Hid (L (u ++ u6) = jn 59 ((pss.map codT).take (k + 1))) := by
     show _ = _
     rw [L_append, Hu.u, hu6, jn_pre Hxc.u, Hk0.u, jpre_zero]; simp [jn]
    have Hs6 : Hid ((u ++ u6).size ≤ 4601 * (k + 1)) := by
     show _ ≤ _
     rw [size_app]; omega
    have Hb6 := hI ((Hbx.u.alloc hszx _).then' (by simp; omega) hb6)
    clear hu6 hb6
    go_wp2_with fail
    go_roundg (vs.length - (k + 1))
    case measure => omega
    case rel => exact ⟨k + 1, _, by omega, rfl, by go_num, rfl, Hs6.u, Hu6.u, Hb6.u⟩
   ·have hk1 : (0 : Int) < (k : Int) := by omega
    go_wp2_with fail
    refine (Hcw.u _).mono ?_
    rintro e w6 ⟨u6, rfl, hu6, hs6, hb6⟩
    have Hu6 : Hid (L (u ++ ⟨#[59]⟩ ++ u6) = jn 59 ((pss.map codT).take (k + 1))) := by
     show _ = _
     rw [L_append, L_append, Hu.u, hu6, jn_pre Hxc.u, jpre_pos (sep := 59) (i := k) (by omega), show L ⟨#[59]⟩ = [59] from rfl]
    have Hs6 : Hid ((u ++ ⟨#[59]⟩ ++ u6).size ≤ 4601 * (k + 1)) := by
     show _ ≤ _
     rw [size_app, size_app]; show u.size + 1 + u6.size ≤ _; omega
    have Hb6 := hI ((Hbx.u.alloc hszx _).then' (by simp; omega) hb6)
    clear hu6 hb6
    go_wp2_with fail
    go_roundg (vs.length - (k + 1))
    case measure => omega
    case rel => exact ⟨k + 1, _, by omega, rfl, by go_num, rfl, Hs6.u, Hu6.u, Hb6.u⟩
  ·obtain rfl : k = vs.length := by omega
   have Hfin : Hid (L u = jn 59 (pss.map codT)) := by
    show _ = _
    rw [Hu.u, Hlen.u, List.take_of_length_le (by simp)]
   go_wp2_with fail
   go_ret
   exact ⟨u, rfl, Hfin.u, by omega, Hbx.u⟩
theorem wf_sg {n : Nat} : ∀ {e : List UInt8} {ps : List Pt}, Wf n e ps → ∀ p ∈ ps, sgB p.1 = true := by
 induction n with
 | zero => intro e ps h; exact absurd h (by simp [Wf])
 | succ n ih =>
  intro e ps h
  rcases h with ⟨_, h⟩ | ⟨_, h2⟩ | ⟨_, p, h2, rfl⟩ | ⟨h1, p, r, h2, h3, rfl⟩
  ·obtain ⟨p, rfl, hp⟩ := opnd_opd h
   intro x hx
   simp at hx
   subst hx
   unfold sgB; rw [hp]; rfl
  ·exact ih h2
  ·intro x hx
   simp at hx
   rcases hx with hx | rfl
   ·exact ih h2 x hx
   ·rfl
  ·intro x hx
   simp at hx
   rcases hx with hx | hx | rfl
   ·exact ih h2 x hx
   ·exact ih h3 x hx
   ·unfold sgB; rw [h1]; simp
theorem ptS_of {t : ByteArray} {pd : List (List UInt8 × List UInt8)} {rows : List (List UInt8)} {pss : List (List Pt)} (hf : Db.Form (L t) pd rows pss) : ∀ ps ∈ pss, ∀ p ∈ ps, PtS p := by
 intro ps hps
 obtain ⟨i, hi, rfl⟩ := List.getElem_of_mem hps
 have hi2 : i < rows.length := by rw [hf.len]; exact hi
 have h := hf.row i rows[i] pss[i] (List.getElem?_eq_getElem hi2) (List.getElem?_eq_getElem hi)
 obtain ⟨n, hn⟩ := h.wf
 exact fun p hp => ⟨wf_sg hn p hp, wf_inR hn p hp⟩
def CompIs (s u : ByteArray) (er : Int) : Prop :=
 (200 < s.size ∧ er = 1 ∧ u = ⟨#[]⟩) ∨ (s.size ≤ 200 ∧ er = 2 ∧ 0 ≤ plc 0 0 0 0 (L s) ∧ u = ⟨#[]⟩) ∨
 (s.size ≤ 200 ∧ ∃ pd rows pss pl, Db.Form (L s) pd rows pss ∧ outc (pdv pd) pss = (er, pl) ∧ ((¬ er = 0 ∧ u = ⟨#[]⟩) ∨ (er = 0 ∧ L u = jn 59 (pss.map codT) ∧ u.size ≤ 40000 ∧ ∀ ps ∈ pss, ps.length ≤ 200)))
theorem dayCompile_any (s : ByteArray) (w : World) (hm : s.size ≤ maxLen) (ht : Tab w) :
  Calls Tryz.prog 41 #[.string s] w fun e w' => ∃ (u : ByteArray) (er : Int), e = .returned (.tuple #[.string u, .int .i64 er]) ∧ CompIs s u er ∧ Below w.heap.size w w' := by
 by_cases hs : 200 < s.size
 ·go_enter Tryz.func41, Tryz.ntmps41
  go_wp2_with fail
  refine (read_long s _ hs hm).mono ?_
  rintro e w1 ⟨rfl, hb⟩
  have Hb := hI hb
  have hsz := hb.size
  clear hb
  go_wp2_with fail
  go_ret2
  exact ⟨_, 1, rfl, .inl ⟨hs, rfl, rfl⟩, Hb.u.alloc hsz _⟩
 ·have hs' : s.size ≤ 200 := by omega
  have Ht := hI ht
  clear ht
  go_enter Tryz.func41, Tryz.ntmps41
  go_wp2_with fail
  refine (read_short s _ hs').mono ?_
  rintro e w1 ⟨hb, ⟨p, rfl, hp, hp0⟩ | ⟨vp, vr, pd, rows, pss, er, pl, rfl, hf, ho, hz, hok⟩⟩
  ·have Hb := hI hb
   have hsz := hb.size
   have Hc : Hid (CompIs s ⟨#[]⟩ 2) := .inr (.inl ⟨hs', rfl, by rw [hp]; exact hp0, rfl⟩)
   clear hb hp
   go_wp2_with fail
   go_ret2
   exact ⟨_, 2, rfl, Hc.u, Hb.u.alloc hsz _⟩
  ·have Hb := hI hb
   have hsz := hb.size
   by_cases h0 : er = 0
   ·subst h0
    obtain ⟨hvp, vs, hvr⟩ := hok rfl
    obtain ⟨a1, k1, rfl⟩ := oForm hvp
    obtain ⟨a2, k2, rfl⟩ := oForm hvr.own
    have hsm := outc_few ho rfl
    have Hf := hI hf
    have Ho := hI ho
    have Hvp := hI hvp
    have Hvr := hI hvr
    have Hrp := hI (fun (o : Obj) => repCompile_any (.slice a1 pd.length k1) (.slice a2 vs.length k2) vs pss w.heap.size (w1.alloc o) _ _ _ rfl (hvr.kept ((Below.refl _ _).alloc (Nat.le_refl _) _)) hsm.2.1 (ptS_of hf) (Ht.u.below (hb.alloc hsz o)))
    clear hb hf ho hz hok hvp hvr hsm
    go_wp2_with fail
    refine (Hrp.u _).mono ?_
    rintro e w2 ⟨u, rfl, hu, hus, hb2⟩
    have Hu := hI hu
    have Hus := hI hus
    have Hb2 : Hid (Below w.heap.size w w2) := (Hb.u.alloc hsz _).then' (by simp; omega) hb2
    clear hu hb2 hus
    go_wp2_with fail
    go_ret2
    exact ⟨u, 0, rfl, .inr (.inr ⟨hs', pd, rows, pss, pl, Hf.u, Ho.u, .inr ⟨rfl, Hu.u, Hus.u, Hvr.u.bd⟩⟩), Hb2.u⟩
   ·obtain ⟨rfl, rfl⟩ := hz h0
    have Hc : Hid (CompIs s ⟨#[]⟩ er) := .inr (.inr ⟨hs', pd, rows, pss, pl, hf, ho, .inl ⟨h0, rfl⟩⟩)
    have hne : (er == 0) = false := by simpa using h0
    clear hb hf ho hz hok
    go_wp2_with fail
    go_ret2
    exact ⟨_, er, rfl, Hc.u, Hb.u.alloc hsz _⟩
end Go.Proofs.YtdchbenfccofpaaGreatDoor
namespace Db
open Go Go.Proofs.YtdchbenfccofpaaGreatDoor
theorem wf_num {n : Nat} : ∀ {e : List UInt8} {ps : List Pt}, Wf n e ps → ∀ p ∈ ps, (selB p.1 = true → 0 ≤ p.2 ∧ p.2 < 100) ∧ (oldB p.1 = true → 0 ≤ p.2 ∧ p.2 < 10) := by
 induction n with
 | zero => intro e ps h; exact absurd h (by simp [Wf])
 | succ n ih =>
   intro e ps h
   rcases h with ⟨_, h⟩ | ⟨_, h2⟩ | ⟨_, p, h2, rfl⟩ | ⟨h1, p, r, h2, h3, rfl⟩
   · intro x hx
     rcases h with ⟨_, _, _, rfl⟩ | ⟨c, ds, _, _, hd, hs, rfl⟩
     · simp at hx; subst hx; exact ⟨fun h => (by cases h), fun h => (by cases h)⟩
     · simp at hx
       subst hx
       have h0 := val_pos ds hd
       have h1 := val_lt ds hd
       refine ⟨fun hsel => ⟨h0, ?_⟩, fun hold => ⟨h0, ?_⟩⟩
       · have hl : ds.length ≤ 2 := by rcases hs with ⟨_, h⟩ | ⟨_, h⟩ <;> omega
         have : (10 : Int) ^ ds.length ≤ 10 ^ 2 := by
           have : (10 : Nat) ^ ds.length ≤ 10 ^ 2 := Nat.pow_le_pow_right (by omega) hl
           exact_mod_cast this
         have e : (10 : Int) ^ 2 = 100 := by decide
         simp only; omega
       · have hl : ds.length = 1 := by
           rcases hs with ⟨h, _⟩ | ⟨_, h⟩
           · simp only at hold
             simp [selB] at h
             simp [oldB] at hold
             omega
           · exact h
         rw [hl] at h1
         simp only; omega
   · exact ih h2
   · intro x hx
     simp at hx
     rcases hx with hx | rfl
     · exact ih h2 x hx
     · exact ⟨fun h => (by cases h), fun h => (by cases h)⟩
   · intro x hx
     simp at hx
     rcases hx with hx | hx | rfl
     · exact ih h2 x hx
     · exact ih h3 x hx
     · have h4 := opd_op h1
       simp [opdB] at h4
       refine ⟨fun h => ?_, fun h => ?_⟩
       · simp only at h; rw [h4.1.1.2] at h; cases h
       · simp only at h; rw [h4.1.2] at h; cases h
theorem wok_of {i : Nat} {n : Nat} {e : List UInt8} {ps : List Pt} (h : Wf n e ps) (hS : ∀ p ∈ ps, PtS p) (hold : ∀ p ∈ ps, oldB p.1 = true → p.2.toNat < i) : ∀ p ∈ (cod ps).reverse, WOk i p := by
 intro p hp
 rw [List.mem_reverse] at hp
 refine all_cod (P := WOk i) (fun v hv => ⟨⟨rfl, hv⟩, fun h => (by cases h), fun h => (by cases h)⟩) ps (by simp) ?_ p hp
 intro x hx
 have h1 := wf_num h x hx
 refine ⟨hS x hx, h1.1, fun ho => ?_⟩
 have h2 := h1.2 ho
 have h3 := hold x hx ho
 omega
theorem fold_congr {E E' : Pt → Cl} : ∀ (ps : List Pt), (∀ p ∈ ps, E p = E' p) → ∀ s, ps.foldl (vStep E) s = ps.foldl (vStep E') s
 | [], _, _ => rfl
 | p :: r, h, s => by
  rw [List.foldl_cons, List.foldl_cons]
  have : vStep E s p = vStep E' s p := by
   cases s with
   | none => rfl
   | some st => simp only [vStep, opv, h p (by simp)]
  rw [this]
  exact fold_congr r (fun x hx => h x (by simp [hx])) _
theorem shC_pre (s : Bk) (pd : List (Int × Int)) (pss : List (List Pt)) (i : Nat) : ∀ d, i + d ≤ pss.length → (shC s pd (pss.take (i + d))).take i = shC s pd (pss.take i) := by
 intro d
 induction d with
 | zero => intro h; rw [Nat.add_zero]; exact List.take_of_length_le (by rw [shC_len, List.length_take]; omega)
 | succ d ih =>
  intro h
  obtain ⟨ps, hps⟩ : ∃ ps, pss[i + d]? = some ps := ⟨pss[i + d]'(by omega), List.getElem?_eq_getElem _⟩
  rw [← Nat.add_assoc, shC_snoc hps, List.take_append_of_le_length (by rw [shC_len, List.length_take]; omega)]
  exact ih (by omega)
theorem shC_take (s : Bk) (pd : List (Int × Int)) (pss : List (List Pt)) (i : Nat) (h : i ≤ pss.length) : (shC s pd pss).take i = shC s pd (pss.take i) := by
 have := shC_pre s pd pss i (pss.length - i) (by omega)
 rwa [show i + (pss.length - i) = pss.length by omega, List.take_length] at this
theorem shC_at {s : Bk} {pd : List (Int × Int)} {pss : List (List Pt)} {i : Nat} {ps : List Pt} (h : pss[i]? = some ps) : (shC s pd pss)[i]? = some (rowP s pd (shC s pd (pss.take i)) ps pd.length) := by
 have hi := (List.getElem?_eq_some_iff.1 h).1
 have h1 := shC_take s pd pss (i + 1) (by omega)
 have h2 : (shC s pd pss)[i]? = ((shC s pd pss).take (i + 1))[i]? := by rw [List.getElem?_take, if_pos (by omega)]
 rw [h2, h1, shC_snoc h, List.getElem?_append_right (by rw [shC_len, List.length_take]; omega), shC_len, List.length_take, show i - min i pss.length = 0 by omega]
 rfl
theorem run_val {s : Bk} {pd : List (Int × Int)} {pss : List (List Pt)} {i k : Nat} {ps : List Pt} {n : Nat} {e : List UInt8} (h : pss[i]? = some ps) (hk : k < pd.length) (hwf : Wf n e ps) (hold : ∀ p ∈ ps, oldB p.1 = true → p.2.toNat < i) :
  (cod ps).reverse.foldl (vStep (opE s pd (shC s pd pss) k)) (some []) = some [((shC s pd pss).getD i []).getD k (0, 0)] := by
 have hi := (List.getElem?_eq_some_iff.1 h).1
 have hcel : ((shC s pd pss).getD i []).getD k (0, 0) = cel (opE s pd (shC s pd (pss.take i)) k) ps := by
  rw [List.getD_eq_getElem?_getD, List.getD_eq_getElem?_getD, shC_at h]
  simp only [Option.getD_some]
  unfold rowP
  rw [List.getElem?_map, List.getElem?_range hk]
  rfl
 have hE : ∀ p ∈ ps, opE s pd (shC s pd pss) k p = opE s pd (shC s pd (pss.take i)) k p := by
  intro p hp
  unfold opE
  have hg : oldB p.1 = true → (shC s pd pss).getD p.2.toNat [] = (shC s pd (pss.take i)).getD p.2.toNat [] := by
   intro ho
   have hlt := hold p hp ho
   rw [← shC_take s pd pss i (by omega), List.getD_eq_getElem?_getD, List.getD_eq_getElem?_getD, List.getElem?_take, if_pos hlt]
  by_cases h36 : p.1 = 36
  ·rw [if_pos (by simp [h36]), if_pos (by simp [h36]), hg (by rw [h36]; rfl)]
  ·have e36 : (p.1 == 36) = false := by simpa using h36
   rw [e36]
   by_cases h60 : p.1 = 60
   ·have e60 : (p.1 == 60) = true := by simp [h60]
    rw [e60, hg (by rw [h60]; rfl)]
   ·have e60 : (p.1 == 60) = false := by simpa using h60
    rw [e60]
    rfl
 have hv : ValR (opE s pd (shC s pd pss) k) ps (cel (opE s pd (shC s pd (pss.take i)) k) ps) := by
  intro st
  rw [fold_congr ps hE]
  exact val_cel hwf st
 rw [hcel]
 exact cod_val hv
theorem codT_no {ps : List Pt} (hS : ∀ p ∈ (cod ps).reverse, PtS p) : ∀ x ∈ codT ps, x ≠ 59 := by
 unfold codT
 refine jn_bytes (q := fun x => x ≠ 59) (by decide) _ ?_
 intro w hw x hx
 obtain ⟨p, hp, rfl⟩ := List.mem_map.1 hw
 exact (word_bytes (hS p hp) x hx).2
end Db
namespace Go.Proofs.YtdchbenfccofpaaGreatDoor
open Go.RowKit Db
theorem CellsAt.down {w : World} {B B' : Nat} {vc : Value} {vs : List Value} {cells : List (List Cl)} (h : CellsAt w B vc vs cells) (hB : B' ≤ B) : CellsAt w B' vc vs cells :=
 ⟨own_down h.own hB, h.len, fun i v c h1 h2 => own_down (h.row i v c h1 h2) hB⟩
theorem splitGo_ne' (c : UInt8) (l : List UInt8) : ∀ acc cur, splitGo c acc cur l ≠ [] := by
 induction l with
 | nil => intro acc cur; simp [splitGo]
 | cons x r ih => intro acc cur; unfold splitGo; split <;> exact ih _ _
structure CdRow (l t : ByteArray) (ps : List Pt) (i : Nat) : Prop where
 code : L l = codT ps
 sz : l.size ≤ 40000
 row : RowW t ps i
 wok : ∀ p ∈ (cod ps).reverse, WOk i p
 len : ps.length ≤ 200
theorem map_get {l : List ByteArray} {f : List (List UInt8)} (h : l.map L = f) {i : Nat} {u : ByteArray} (hu : l[i]? = some u) : f[i]? = some (L u) := by
 rw [← h, List.getElem?_map, hu]; rfl
theorem split_codes {code : ByteArray} {pss : List (List Pt)} {us : List ByteArray} (hc : L code = jn 59 (pss.map codT)) (hne : pss ≠ []) (hP : ∀ ps ∈ pss, ∀ x ∈ codT ps, x ≠ 59) (hus : us.map L = split (L code) 59) : us.map L = pss.map codT := by
 rw [hus, hc]
 refine split_jn 59 _ (by simpa using hne) ?_
 intro w hw x hx
 obtain ⟨ps, hp, rfl⟩ := List.mem_map.1 hw
 exact hP ps hp x hx
theorem coded_ok (B p : Nat) (b : Bk) (s code : ByteArray) (w : World) (hs : s.size ≤ 200) (pd : List (List UInt8 × List UInt8)) (rows : List (List UInt8)) (pss : List (List Pt)) (pl : Int) (hf : Db.Form (L s) pd rows pss) (ho : outc (pdv pd) pss = (0, pl)) (h : Rfd w B p b)
  (hc : L code = jn 59 (pss.map codT)) (hcs : code.size ≤ 40000) (hbd : ∀ ps ∈ pss, ps.length ≤ 200) :
  Calls Tryz.prog 45 #[.pointer (some ⟨p, 0, none⟩), .string s, .string code, .int .i64 0] w fun e w' => e = .returned (.bool true) ∧ Below w.heap.size w w' := by
 have hfew := outc_few ho rfl
 have Hf := hI hf
 have Ho := hI ho
 have H := hI h
 have hpne : pss ≠ [] := by
  rintro rfl
  obtain ⟨x, y, _, _, h3⟩ := hf.sht.parts
  have h4 := hf.len
  simp at h4
  rw [h4] at h3
  exact absurd h3 (by unfold split; exact splitGo_ne' _ _ _ _)
 have Hwk : Hid (∀ (i : Nat) ps, pss[i]? = some ps → (∀ q ∈ (cod ps).reverse, WOk i q)) := by
  intro i ps hps
  obtain ⟨⟨n, e, hwf⟩, hpt⟩ := ptOk_of hf ho i ps hps
  exact wok_of hwf (ptS_of hf ps (List.mem_of_getElem? hps)) (fun q hq hold => ((hpt q hq).2 hold).2)
 have Hspl : Hid (∀ us : List ByteArray, us.map L = split (L code) 59 → us.map L = pss.map codT) := by
  intro us hus
  refine split_codes hc hpne ?_ hus
  intro ps hps
  obtain ⟨i, hi, rfl⟩ := List.getElem_of_mem hps
  exact codT_no (fun q hq => (Hwk.u i _ (List.getElem?_eq_getElem hi) q hq).1)
 have Hbd := hI hbd
 clear hf ho h hc hpne hbd
 go_enter Tryz.func45, Tryz.ntmps45
 go_wp2_with fail
 refine (refRead_ok s _ hs pd rows pss Hf.u).mono ?_
 rintro e w1 ⟨a1, n1, k1, a2, n2, k2, a3, n3, k3, er', pl', rfl, ho', hb, hsh⟩
 have hh := Ho.u.symm.trans ho'
 simp only [Prod.mk.injEq] at hh
 obtain ⟨rfl, rfl⟩ := hh
 obtain ⟨ss, hss, hsh⟩ := hsh rfl
 have hp4 : pd.length ≤ 4 := by have := hfew.1; simpa [pdv] using this
 have hlen : ss.length = pss.length := by rw [← Hf.u.len, ← hss, List.length_map]
 have hs8 : ss.length ≤ 8 := by rw [hlen]; exact hfew.2.1
 obtain rfl : n3 = ss.length := by obtain ⟨_, _, e1⟩ := oForm hsh.rr; cases e1; rfl
 obtain rfl : n1 = pd.length := by obtain ⟨_, _, e1⟩ := oForm hsh.rf; cases e1; rfl
 have HrowW := hI (rowW_of Hf.u Ho.u hss)
 have hsz := hb.size
 obtain ⟨W, hW⟩ : ∃ W, w1.alloc (.cells #[.slice a1 pd.length k1, .slice a2 n2 k2, .slice a3 ss.length k3] 129) = W := ⟨_, rfl⟩
 have HbW : Hid (Below w.heap.size w W) := by rw [← hW]; exact hb.alloc hsz _
 have HB : Hid (Blk W w1.heap.size #[.slice a1 pd.length k1, .slice a2 n2 k2, .slice a3 ss.length k3] 129) := by rw [← hW]; exact Blk.new _ _ _
 have Hsh : Hid (SheetAt W w.heap.size (.slice a1 pd.length k1) (.slice a2 n2 k2) (.slice a3 ss.length k3) pd ss) := by rw [← hW]; exact hsh.alloc _
 have hWs : W.heap.size = w1.heap.size + 1 := by rw [← hW]; simp
 have Hlen := hI hlen
 clear hb ho' hsh hss hlen
 go_wp2_with fail
 try rw [hW]
 clear hW
 refine (split_any code 59 _ (by omega)).mono ?_
 rintro e w2 ⟨v, us, rfl, hus, hown, hb2⟩
 have hum := Hspl.u us hus
 have hul : us.length = pss.length := by have := congrArg List.length hum; simpa using this
 have hul2 : us.length = ss.length := by have := Hlen.u; omega
 obtain ⟨gu, capu, rfl, hgu, hgu'⟩ := oSome hown (by have := Hlen.u; cases hp : pss with | nil => rw [hp] at hum; simp at hum; subst hum; simp at hus; exact absurd hus.symm (fun e => splitGo_ne' 59 (L code) [] [] e.symm) | cons a r => rw [hul, hp]; simp)
 rw [hul2] at hown ⊢
 have Hown := hI hown
 have Hum := hI hum
 have Hb2 := hI (HbW.u.then' HbW.u.size hb2)
 have Hb2W := hI hb2
 have Hul := hI hul
 have Hul2 := hI hul2
 have Husz : Hid (∀ (i : Nat) u, us[i]? = some u → u.size ≤ 40000) := by
  intro i u hu
  have h1 := split_le (L code) 59 (L u) (by rw [← hus]; exact List.mem_map.2 ⟨u, List.mem_of_getElem? hu, rfl⟩)
  rw [L_length, L_length] at h1
  omega
 clear hum hus hown hul hul2 Hspl hb2
 have s0 := (HB.u.kept Hb2W.u).cell 0
 have s2 := (HB.u.kept Hb2W.u).cell 2
 simp only [List.getElem?_toArray, List.getElem?_cons_zero, List.getElem?_cons_succ] at s0 s2
 have hult : us.length ≤ 8 := by have := Hul2.u; omega
 have Hrow : Hid (∀ (i : Nat) (hi : i < ss.length), ∃ u t ps, us[i]? = some u ∧ ss[i]? = some t ∧ pss[i]? = some ps ∧ CdRow u t ps i) := by
  intro i hi
  have h1 := Hul2.u
  have h2 := Hlen.u
  obtain ⟨u, hu⟩ : ∃ u, us[i]? = some u := ⟨us[i]'(by omega), List.getElem?_eq_getElem _⟩
  obtain ⟨t, ht⟩ : ∃ t, ss[i]? = some t := ⟨ss[i]'(by omega), List.getElem?_eq_getElem _⟩
  obtain ⟨ps, hps⟩ : ∃ ps, pss[i]? = some ps := ⟨pss[i]'(by omega), List.getElem?_eq_getElem _⟩
  refine ⟨u, t, ps, hu, ht, hps, ?_, Husz.u i u hu, HrowW.u i t ps ht hps, Hwk.u i ps hps, Hbd.u ps (List.mem_of_getElem? hps)⟩
  have := map_get Hum.u hu
  rw [List.getElem?_map, hps] at this
  simpa using this.symm
 go_wp2_with fail
 go_loopg [13] ss.length (fun m i wr => ∃ j : Nat, j ≤ ss.length ∧ m = ss.length - j ∧ i = .int .i64 j ∧ Hid (Below w2.heap.size w2 wr))
 case atStart => exact ⟨0, by omega, rfl, rfl, Below.refl _ _⟩
 case round =>
  obtain ⟨j, hj, rfl, rfl, Hbx⟩ := hrel
  have hszx := Hbx.u.size
  have s0x := kept_cell' Hbx.u s0
  have s2x := kept_cell' Hbx.u s2
  by_cases hlt : j < ss.length
  ·obtain ⟨u, t, ps, hu, ht, hps, hcd⟩ := Hrow.u j hlt
   have hox := oBelow Hown.u Hbx.u
   have d1 := oCell (by have := hox; exact this) (j := j) (u := .string u) (by rw [List.getElem?_map, hu]; rfl)
   have hshx := (Hsh.u.kept Hb2W.u).kept Hbx.u
   obtain ⟨gr, _, e1, hgr, hgr'⟩ := oSome hshx.rr (by omega)
   simp only [Value.slice.injEq, true_and] at e1
   obtain ⟨rfl, rfl⟩ := e1
   have d2 := oCell hshx.rr (j := j) (u := .string t) (by rw [List.getElem?_map, ht]; rfl)
   obtain ⟨n, hwf⟩ := hcd.row.wf
   have Hfo := hI (fun wx : World => formed_any u t j ps (cod ps).reverse n wx (fun _ => (0, 0)) _ hcd.code hcd.sz hcd.wok (by rw [List.reverse_reverse]; exact nf_cod ps (rs := []) trivial) (cod_val (val_cel hwf)) hwf hcd.row.sz (by rw [List.length_reverse]; have := len_cod ps []; unfold cod; simpa using this) hcd.len)
   have hlti : (j : Int) < (ss.length : Int) := by omega
   clear hu ht hps hcd hox hshx hwf
   go_upto_region 10 with fail
   go_region_held3 (fun w' => w'.cell? ⟨gu, j, none⟩ = some (.string u) ∧ w'.cell? ⟨w1.heap.size, 2, none⟩ = some (.slice (some ⟨gr, 0, none⟩) ss.length k3) ∧ w'.cell? ⟨gr, j, none⟩ = some (.string t)) (first | go_keep | exact ⟨kept_cell' hb4 (by simp [*]), kept_cell' hb4 (by simp [*]), kept_cell' hb4 (by simp [*])⟩) (first | (go_at_call 78; refine (Hfo.u _).mono ?_; rintro e w4 ⟨rfl, hb4⟩))
   have Hb4 := hI (Hbx.u.then' hszx hb4.undrew)
   clear hb4 Hfo
   go_wp2_with fail
   go_roundg (ss.length - (j + 1))
   case measure => omega
   case rel => exact ⟨j + 1, by omega, rfl, by go_num, Hb4.u⟩
  ·obtain rfl : j = ss.length := by omega
   have s1x := kept_cell' Hbx.u (kept_cell' Hb2W.u (HB.u.cell 1))
   have lw1 : w1.heap.size < wr.heap.size := by
    have h1 := (HB.u.kept Hb2W.u).lt
    omega
   have Hwk := hI (fun (o : Obj) => worked_any p w.heap.size B b pd ss pss _ _ _ (wr.alloc o) (H.u.kept ((Hb2.u.then' Hb2.u.size Hbx.u).alloc (by have := Hb2.u.size; omega) o)) (((Hsh.u.kept Hb2W.u).kept Hbx.u).alloc o) hp4 Hlen.u hfew.2.1 HrowW.u)
   go_wp2_with fail
   refine (Hwk.u _).mono ?_
   rintro e w4 ⟨g, vc, vs, rfl, hge, hg, hb4⟩
   simp at hge
   obtain ⟨cells, hcells⟩ : ∃ cells, shC b (pdv pd) pss = cells := ⟨_, rfl⟩
   have hcl : cells.length = ss.length := by rw [← hcells, shC_len, Hlen.u]
   rw [hcells] at hg
   have Hcells := hI hcells
   obtain ⟨aoc, capc, hvc0⟩ := oForm hg.cs.own
   rw [hg.cs.len, hcl] at hvc0
   subst hvc0
   have HQ := hI ((Blk.new wr #[.pointer (some ⟨p, 0, none⟩), .slice a1 pd.length k1, .slice a2 n2 k2, .slice a3 ss.length k3, .slice none 0 0] 136).kept hb4)
   have q4 := (five_cells HQ.u).2.2.2.2
   have z4 := HQ.u.frozen 4
   have lq := HQ.u.lt
   have Hb4r : Hid (Below wr.heap.size wr w4) := ((Below.refl _ _).alloc (Nat.le_refl _) _).then' (by simp) hb4
   have Hb4 : Hid (Below w2.heap.size w2 w4) := Hbx.u.then' hszx Hb4r.u
   have HG : Hid (GridAt (w4.setCell ⟨wr.heap.size, 4, none⟩ (.slice aoc ss.length capc)) wr.heap.size b pd cells p w.heap.size (.slice a1 pd.length k1) (.slice a2 n2 k2) (.slice a3 ss.length k3) (.slice aoc ss.length capc) ss vs) := by
    have hbs : Below wr.heap.size wr (w4.setCell ⟨wr.heap.size, 4, none⟩ (.slice aoc ss.length capc)) := Hb4r.u.setCell (by simp) _
    have hbw : Below w.heap.size w wr := Hb2.u.then' Hb2.u.size Hbx.u
    refine ⟨?_, ⟨B, (H.u.kept hbw).kept hbs⟩, (((Hsh.u.kept Hb2W.u).kept Hbx.u).kept hbs), ?_, hg.wid, hg.few, hg.ok⟩
    ·have := HQ.u.set 4 (.slice aoc ss.length capc)
     simpa using this
    ·exact (hg.cs.set (by show wr.heap.size < g + 1; omega) _).down (by omega)
   have HB5 : Hid (Below w2.heap.size w2 (w4.setCell ⟨wr.heap.size, 4, none⟩ (.slice aoc ss.length capc))) := Hb4.u.setCell (by show w2.heap.size ≤ wr.heap.size; exact hszx) _
   clear hb4 hg hcells Hwk hge
   go_wp2_with fail
   obtain ⟨w5, hw5⟩ : ∃ w5, w4.setCell ⟨wr.heap.size, 4, none⟩ (.slice aoc ss.length capc) = w5 := ⟨_, rfl⟩
   rw [hw5] at HG HB5 ⊢
   clear hw5 q4 z4 lq HQ Hb4 Hb4r
   obtain ⟨gq, hgq⟩ : ∃ gq, wr.heap.size = gq := ⟨_, rfl⟩
   rw [hgq] at HG ⊢
   clear hgq s0x s2x s1x
   go_loopg [16] ss.length (fun m i wx => ∃ i' : Nat, i' ≤ ss.length ∧ m = ss.length - i' ∧ i = .int .i64 i' ∧ Hid (Below w5.heap.size w5 wx))
   case atStart => exact ⟨0, by omega, rfl, rfl, Below.refl _ _⟩
   case round =>
    obtain ⟨i, hi, rfl, rfl, Hb6⟩ := hrel
    by_cases hlt : i < ss.length
    ·obtain ⟨u, t, ps, hu, ht, hps, hcd⟩ := Hrow.u i hlt
     have hlti : (i : Int) < (ss.length : Int) := by omega
     have Hd1 : Hid (w2.cell? ⟨gu, i, none⟩ = some (.string u)) := oCell (by have := Hown.u; exact this) (j := i) (u := .string u) (by rw [List.getElem?_map, hu]; rfl)
     obtain ⟨n, hwf⟩ := hcd.row.wf
     have Hrun : Hid (∀ (k : Nat) (wx : World), k < pd.length → Below w5.heap.size w5 wx → Calls Tryz.prog 80 #[.pointer (some ⟨gq, 0, none⟩), .string u, .int .i64 (k : Int)] wx fun e w' => e = .returned (clV ((cells.getD i []).getD k (0, 0))) ∧ Below wx.heap.size wx w') := by
      intro k wx hk hb
      refine (run_any gq k b pd cells u i (cod ps).reverse ((cells.getD i []).getD k (0, 0)) wx ⟨_, _, _, _, _, _, _, _, HG.u.kept hb⟩ hk hcd.code hcd.sz hcd.wok (by omega) (by rw [List.length_reverse]; have := len_cod ps []; have h2 := hcd.len; simp at this; unfold cod; omega) ?_).mono ?_
      ·have := run_val (s := b) (pd := pdv pd) hps (k := k) (by simpa [pdv] using hk) hwf hcd.row.old
       rw [Hcells.u] at this
       exact this
      ·rintro e w' ⟨rfl, _, hb'⟩
       exact ⟨rfl, hb'⟩
     clear hu ht hps hcd hwf
     go_wp2_with fail
     obtain ⟨w6, hw6⟩ : ∃ w6, wr = w6 := ⟨_, rfl⟩
     rw [hw6] at Hb6 ⊢
     clear hw6
     go_loopg [17] pd.length (fun m i wx => ∃ k : Nat, k ≤ pd.length ∧ m = pd.length - k ∧ i = .int .i64 k ∧ Hid (Below w5.heap.size w5 wx))
     case atStart => exact ⟨0, by omega, rfl, rfl, Hb6.u⟩
     case round =>
      obtain ⟨k, hk, rfl, rfl, Hb7⟩ := hrel
      have hsz7 := Hb7.u.size
      have Hb7w := hI (HB5.u.then' HB5.u.size Hb7.u)
      have s0y := kept_cell' Hb7w.u s0
      have d1 := kept_cell' Hb7w.u Hd1.u
      by_cases hlk : k < pd.length
      ·obtain ⟨gc, capc', _, gr, capr, x, y, hvc, r1, _, r2, r3, hxy, hgc, hgr⟩ := row_get (HG.u.kept Hb7.u) (n := i) (by omega) hlk
       simp only [Value.slice.injEq] at hvc
       obtain ⟨rfl, hvl, rfl⟩ := hvc
       have q4 := (five_cells (HG.u.kept Hb7.u).blk).2.2.2.2
       clear hvl
       have lq := (HG.u.kept Hb7.u).blk.lt
       have Hr := hI (Hrun.u k _ hlk Hb7.u)
       rw [hxy] at Hr
       unfold clV at Hr
       simp only at Hr
       have hkp : (k : Int) < (pd.length : Int) := by omega
       clear hxy
       go_wp2_with fail
       refine Hr.u.mono ?_
       rintro e w8 ⟨rfl, hb8⟩
       have hs8 := hb8.size
       have q4' := kept_cell' hb8 q4
       have r1' := kept_cell' hb8 r1
       have r2' := kept_cell' hb8 r2
       have r3' := kept_cell' hb8 r3
       have Hb8 := hI (Hb7.u.then' hsz7 hb8)
       have hsz8 := Hb8.u.size
       have lq8 : gq < w8.heap.size := by omega
       have lgc8 : gc < w8.heap.size := by omega
       have lgr8 : gr < w8.heap.size := by omega
       clear hb8 Hr q4 r1 r2 r3
       go_upto_region 22 with fail
       go_quiet (fail)
       go_wp2_with fail
       go_roundg (pd.length - (k + 1))
       case measure => omega
       case rel => exact ⟨k + 1, by omega, rfl, by go_num, (Hb8.u.alloc hsz8 _).drewN _⟩
      ·obtain rfl : k = pd.length := by omega
       go_wp2_with fail
       go_roundg (ss.length - (i + 1))
       case measure => omega
       case rel => exact ⟨i + 1, by omega, rfl, by go_num, Hb7.u⟩
    ·obtain rfl : i = ss.length := by omega
     have Hfin := hI ((Hb2.u.then' Hb2.u.size HB5.u).then' (by have h1 := Hb2.u.size; have h2 := HB5.u.size; omega) Hb6.u)
     go_wp2_with fail
     go_ret
     exact ⟨rfl, Hfin.u⟩
end Go.Proofs.YtdchbenfccofpaaGreatDoor
