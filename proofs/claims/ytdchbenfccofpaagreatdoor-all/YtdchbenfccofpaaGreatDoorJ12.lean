/- Own texts of the theorem in YtdchbenfccofpaaGreatDoorWAlY, part 12. -/
import Derived.Test.YtdchbenfccofpaaGreatDoorJ01
import Derived.Test.YtdchbenfccofpaaGreatDoorJ07
import Derived.Test.YtdchbenfccofpaaGreatDoorJ02
import Derived.Test.YtdchbenfccofpaaGreatDoorJ09
import Derived.Test.YtdchbenfccofpaaGreatDoorJ10
import Derived.Test.YtdchbenfccofpaaGreatDoorJ11
import Derived.Deep.RegionWith
import Derived.Deep.DeepCutAuto
set_option maxHeartbeats 2000000
namespace Go.Proofs.YtdchbenfccofpaaGreatDoor
open Go.RowKit Db
theorem plc_at {s : ByteArray} {k : Nat} (h : k < s.size) {a d o : Int} {a' d' o' : Int} {ok : Bool} (hr : stepS a d o (s[k].toNat : Int) = if ok then some (a', d', o') else none) (hok : okS a d o k) :
  (ok = true → plc a d o k ((L s).drop k) = plc a' d' o' ((k + 1 : Nat) : Int) ((L s).drop (k + 1)) ∧ okS a' d' o' (k + 1)) ∧ (ok = false → plc a d o k ((L s).drop k) = k) := by
 refine ⟨?_, ?_⟩
 ·rintro rfl
  rw [if_pos rfl] at hr
  refine ⟨?_, stepS_ok hok hr⟩
  rw [L_drop s k h, plc_step hr]; rfl
 ·rintro rfl
  rw [if_neg (by simp)] at hr
  rw [L_drop s k h, plc_stop hr]
theorem step_days {a d o c : Int} (h : a < 6) : stepS a d o c = daysS a d o c := by unfold stepS; rw [if_pos h]
theorem step_fact {a d o c : Int} (h : a = 6 ∨ a = 8 ∨ a = 9) : stepS a d o c = factS a d o c := by
 unfold stepS; rw [if_neg (by omega), if_pos (by rcases h with rfl | rfl | rfl <;> rfl)]
theorem step_onw {a d o c : Int} (h : a = 7 ∨ a = 10 ∨ a = 11) : stepS a d o c = onwS a d o c := by
 unfold stepS; rw [if_neg (by omega), if_neg (by rcases h with rfl | rfl | rfl <;> decide)]
def SpotAt (w wr : World) (a d o : Int) : Prop := Blk wr w.heap.size #[.int .i64 a, .int .i64 d, .int .i64 o] 229 ∧ Below w.heap.size w wr
theorem SpotAt.next {w wr w1 : World} {a d o : Int} (h : SpotAt w wr a d o) (hb : Below wr.heap.size wr w1) (a1 d1 o1 : Int) :
  SpotAt w (((w1.setCell ⟨w.heap.size, 0, none⟩ (.int .i64 a1)).setCell ⟨w.heap.size, 1, none⟩ (.int .i64 d1)).setCell ⟨w.heap.size, 2, none⟩ (.int .i64 o1)) a1 d1 o1 := by
 refine ⟨?_, ?_⟩
 ·have := ((((h.1.kept hb).set 0 (.int .i64 a1)).set 1 (.int .i64 d1)).set 2 (.int .i64 o1))
  simpa using this
 ·exact (((h.2.then' h.2.size hb).setCell (by simp) _).setCell (by simp) _).setCell (by simp) _
theorem place_any (s : ByteArray) (w : World) (hs : s.size ≤ 200) :
   Calls Tryz.prog 109 #[.string s] w fun e w' => e = .returned (.int .i64 (plc 0 0 0 0 (L s))) ∧ Below w.heap.size w w' := by
 go_enter Tryz.func109, Tryz.ntmps109
 go_wp2
 go_loopw [4, 5] (fun ok i wr => ∃ k : Nat, ∃ a d o : Int, k ≤ s.size ∧ i = .int .i64 k ∧ ok = .bool true ∧ Hid (okS a d o k) ∧ Hid (SpotAt w wr a d o) ∧
     Hid (plc a d o k ((L s).drop k) = plc 0 0 0 0 (L s))) (fun _ i _ => s.size - (intOf i).toNat)
 case atStart => exact ⟨0, 0, 0, 0, by omega, rfl, rfl, ⟨by omega, by omega, by omega, by omega, by omega, by omega⟩, ⟨Blk.new _ _ _, (Below.refl _ _).alloc (Nat.le_refl _) _⟩, rfl⟩
 case round =>
   obtain ⟨k, a, d, o, hk, rfl, rfl, Hok, Hat, Hp⟩ := hrel
   obtain ⟨ha0, ha1, hd0, hd1, ho0, ho1⟩ := Hok.u
   have hc0 := Hat.u.1.cell 0
   have hc1 := Hat.u.1.cell 1
   have hc2 := Hat.u.1.cell 2
   have hf0 := Hat.u.1.frozen 0
   have hf1 := Hat.u.1.frozen 1
   have hf2 := Hat.u.1.frozen 2
   have hsz := Hat.u.1.lt
   simp only [List.getElem?_toArray, List.getElem?_cons_zero, List.getElem?_cons_succ] at hc0 hc1 hc2
   by_cases hlt : k < s.size
   · by_cases h6 : a < 6
     · skip
       go_wp2_with fail
       go_region_with (go_at_call 150; refine (days_any a d o _ _ ha0 h6 hd0 hd1 ho0 (by omega)).mono ?_; rintro e w1 ⟨⟨a1, d1, o1, ok1, rfl, hr⟩, hb⟩; have Hr := hI hr; have Hb1 := hI hb.undrew; have c0 := (hb.cell (p := ⟨w.heap.size, 0, none⟩) hsz).trans hc0; have c1 := (hb.cell (p := ⟨w.heap.size, 1, none⟩) hsz).trans hc1; have c2 := (hb.cell (p := ⟨w.heap.size, 2, none⟩) hsz).trans hc2; have f0 := (hb.frozen (p := ⟨w.heap.size, 0, none⟩) hsz).trans hf0; have f1 := (hb.frozen (p := ⟨w.heap.size, 1, none⟩) hsz).trans hf1; have f2 := (hb.frozen (p := ⟨w.heap.size, 2, none⟩) hsz).trans hf2; clear hr hb)
       all_goals
         cases ok1
         · have Hx := hI ((plc_at hlt ((step_days h6).trans Hr.u) Hok.u).2 rfl)
           go_wp2
           go_ret
           exact ⟨ret_int (by rw [← Hp.u, Hx.u]), (Hat.u.next Hb1.u a1 d1 o1).2⟩
         · have Hx := hI ((plc_at hlt ((step_days h6).trans Hr.u) Hok.u).1 rfl).1
           have Hy := hI ((plc_at hlt ((step_days h6).trans Hr.u) Hok.u).1 rfl).2
           go_wp2
           go_roundw
           case rel => exact ⟨k + 1, a1, d1, o1, by omega, by go_num, rfl, Hy.u, Hat.u.next Hb1.u a1 d1 o1, by show _ = _; rw [← Hp.u, Hx.u]⟩
           case measure => simp [intOf]; omega
     · have hc : (a = 6 ∨ a = 8 ∨ a = 9) ∨ (a = 7 ∨ a = 10 ∨ a = 11) := by omega
       rcases hc with hc | hc
       · rcases hc with hc | hc | hc
         · obtain rfl : a = 6 := by omega
           go_wp2_with fail
           go_region_with (go_at_call 151; refine (factor_any 6 d o _ _ (Or.inl rfl) hd0 hd1 ho0 (by omega)).mono ?_; rintro e w1 ⟨⟨a1, d1, o1, ok1, rfl, hr⟩, hb⟩; have Hr := hI hr; have Hb1 := hI hb.undrew; have c0 := (hb.cell (p := ⟨w.heap.size, 0, none⟩) hsz).trans hc0; have c1 := (hb.cell (p := ⟨w.heap.size, 1, none⟩) hsz).trans hc1; have c2 := (hb.cell (p := ⟨w.heap.size, 2, none⟩) hsz).trans hc2; have f0 := (hb.frozen (p := ⟨w.heap.size, 0, none⟩) hsz).trans hf0; have f1 := (hb.frozen (p := ⟨w.heap.size, 1, none⟩) hsz).trans hf1; have f2 := (hb.frozen (p := ⟨w.heap.size, 2, none⟩) hsz).trans hf2; clear hr hb)
           all_goals
             cases ok1
             · have Hx := hI ((plc_at hlt ((step_fact (Or.inl rfl)).trans Hr.u) Hok.u).2 rfl)
               go_wp2
               go_ret
               exact ⟨ret_int (by rw [← Hp.u, Hx.u]), (Hat.u.next Hb1.u a1 d1 o1).2⟩
             · have Hx := hI ((plc_at hlt ((step_fact (Or.inl rfl)).trans Hr.u) Hok.u).1 rfl).1
               have Hy := hI ((plc_at hlt ((step_fact (Or.inl rfl)).trans Hr.u) Hok.u).1 rfl).2
               go_wp2
               go_roundw
               case rel => exact ⟨k + 1, a1, d1, o1, by omega, by go_num, rfl, Hy.u, Hat.u.next Hb1.u a1 d1 o1, by show _ = _; rw [← Hp.u, Hx.u]⟩
               case measure => simp [intOf]; omega
         · obtain rfl : a = 8 := by omega
           go_wp2_with fail
           go_region_with (go_at_call 151; refine (factor_any 8 d o _ _ (Or.inr (Or.inl rfl)) hd0 hd1 ho0 (by omega)).mono ?_; rintro e w1 ⟨⟨a1, d1, o1, ok1, rfl, hr⟩, hb⟩; have Hr := hI hr; have Hb1 := hI hb.undrew; have c0 := (hb.cell (p := ⟨w.heap.size, 0, none⟩) hsz).trans hc0; have c1 := (hb.cell (p := ⟨w.heap.size, 1, none⟩) hsz).trans hc1; have c2 := (hb.cell (p := ⟨w.heap.size, 2, none⟩) hsz).trans hc2; have f0 := (hb.frozen (p := ⟨w.heap.size, 0, none⟩) hsz).trans hf0; have f1 := (hb.frozen (p := ⟨w.heap.size, 1, none⟩) hsz).trans hf1; have f2 := (hb.frozen (p := ⟨w.heap.size, 2, none⟩) hsz).trans hf2; clear hr hb)
           all_goals
             cases ok1
             · have Hx := hI ((plc_at hlt ((step_fact (Or.inr (Or.inl rfl))).trans Hr.u) Hok.u).2 rfl)
               go_wp2
               go_ret
               exact ⟨ret_int (by rw [← Hp.u, Hx.u]), (Hat.u.next Hb1.u a1 d1 o1).2⟩
             · have Hx := hI ((plc_at hlt ((step_fact (Or.inr (Or.inl rfl))).trans Hr.u) Hok.u).1 rfl).1
               have Hy := hI ((plc_at hlt ((step_fact (Or.inr (Or.inl rfl))).trans Hr.u) Hok.u).1 rfl).2
               go_wp2
               go_roundw
               case rel => exact ⟨k + 1, a1, d1, o1, by omega, by go_num, rfl, Hy.u, Hat.u.next Hb1.u a1 d1 o1, by show _ = _; rw [← Hp.u, Hx.u]⟩
               case measure => simp [intOf]; omega
         · obtain rfl : a = 9 := by omega
           go_wp2_with fail
           go_region_with (go_at_call 151; refine (factor_any 9 d o _ _ (Or.inr (Or.inr rfl)) hd0 hd1 ho0 (by omega)).mono ?_; rintro e w1 ⟨⟨a1, d1, o1, ok1, rfl, hr⟩, hb⟩; have Hr := hI hr; have Hb1 := hI hb.undrew; have c0 := (hb.cell (p := ⟨w.heap.size, 0, none⟩) hsz).trans hc0; have c1 := (hb.cell (p := ⟨w.heap.size, 1, none⟩) hsz).trans hc1; have c2 := (hb.cell (p := ⟨w.heap.size, 2, none⟩) hsz).trans hc2; have f0 := (hb.frozen (p := ⟨w.heap.size, 0, none⟩) hsz).trans hf0; have f1 := (hb.frozen (p := ⟨w.heap.size, 1, none⟩) hsz).trans hf1; have f2 := (hb.frozen (p := ⟨w.heap.size, 2, none⟩) hsz).trans hf2; clear hr hb)
           all_goals
             cases ok1
             · have Hx := hI ((plc_at hlt ((step_fact (Or.inr (Or.inr rfl))).trans Hr.u) Hok.u).2 rfl)
               go_wp2
               go_ret
               exact ⟨ret_int (by rw [← Hp.u, Hx.u]), (Hat.u.next Hb1.u a1 d1 o1).2⟩
             · have Hx := hI ((plc_at hlt ((step_fact (Or.inr (Or.inr rfl))).trans Hr.u) Hok.u).1 rfl).1
               have Hy := hI ((plc_at hlt ((step_fact (Or.inr (Or.inr rfl))).trans Hr.u) Hok.u).1 rfl).2
               go_wp2
               go_roundw
               case rel => exact ⟨k + 1, a1, d1, o1, by omega, by go_num, rfl, Hy.u, Hat.u.next Hb1.u a1 d1 o1, by show _ = _; rw [← Hp.u, Hx.u]⟩
               case measure => simp [intOf]; omega
       · rcases hc with hc | hc | hc
         · obtain rfl : a = 7 := by omega
           go_wp2_with fail
           go_region_with (go_at_call 152; refine (onward_any 7 d o _ _ (Or.inl rfl) hd0 hd1 ho0 (by omega)).mono ?_; rintro e w1 ⟨⟨a1, d1, o1, ok1, rfl, hr⟩, hb⟩; have Hr := hI hr; have Hb1 := hI hb.undrew; have c0 := (hb.cell (p := ⟨w.heap.size, 0, none⟩) hsz).trans hc0; have c1 := (hb.cell (p := ⟨w.heap.size, 1, none⟩) hsz).trans hc1; have c2 := (hb.cell (p := ⟨w.heap.size, 2, none⟩) hsz).trans hc2; have f0 := (hb.frozen (p := ⟨w.heap.size, 0, none⟩) hsz).trans hf0; have f1 := (hb.frozen (p := ⟨w.heap.size, 1, none⟩) hsz).trans hf1; have f2 := (hb.frozen (p := ⟨w.heap.size, 2, none⟩) hsz).trans hf2; clear hr hb)
           all_goals
             cases ok1
             · have Hx := hI ((plc_at hlt ((step_onw (Or.inl rfl)).trans Hr.u) Hok.u).2 rfl)
               go_wp2
               go_ret
               exact ⟨ret_int (by rw [← Hp.u, Hx.u]), (Hat.u.next Hb1.u a1 d1 o1).2⟩
             · have Hx := hI ((plc_at hlt ((step_onw (Or.inl rfl)).trans Hr.u) Hok.u).1 rfl).1
               have Hy := hI ((plc_at hlt ((step_onw (Or.inl rfl)).trans Hr.u) Hok.u).1 rfl).2
               go_wp2
               go_roundw
               case rel => exact ⟨k + 1, a1, d1, o1, by omega, by go_num, rfl, Hy.u, Hat.u.next Hb1.u a1 d1 o1, by show _ = _; rw [← Hp.u, Hx.u]⟩
               case measure => simp [intOf]; omega
         · obtain rfl : a = 10 := by omega
           go_wp2_with fail
           go_region_with (go_at_call 152; refine (onward_any 10 d o _ _ (Or.inr (Or.inl rfl)) hd0 hd1 ho0 (by omega)).mono ?_; rintro e w1 ⟨⟨a1, d1, o1, ok1, rfl, hr⟩, hb⟩; have Hr := hI hr; have Hb1 := hI hb.undrew; have c0 := (hb.cell (p := ⟨w.heap.size, 0, none⟩) hsz).trans hc0; have c1 := (hb.cell (p := ⟨w.heap.size, 1, none⟩) hsz).trans hc1; have c2 := (hb.cell (p := ⟨w.heap.size, 2, none⟩) hsz).trans hc2; have f0 := (hb.frozen (p := ⟨w.heap.size, 0, none⟩) hsz).trans hf0; have f1 := (hb.frozen (p := ⟨w.heap.size, 1, none⟩) hsz).trans hf1; have f2 := (hb.frozen (p := ⟨w.heap.size, 2, none⟩) hsz).trans hf2; clear hr hb)
           all_goals
             cases ok1
             · have Hx := hI ((plc_at hlt ((step_onw (Or.inr (Or.inl rfl))).trans Hr.u) Hok.u).2 rfl)
               go_wp2
               go_ret
               exact ⟨ret_int (by rw [← Hp.u, Hx.u]), (Hat.u.next Hb1.u a1 d1 o1).2⟩
             · have Hx := hI ((plc_at hlt ((step_onw (Or.inr (Or.inl rfl))).trans Hr.u) Hok.u).1 rfl).1
               have Hy := hI ((plc_at hlt ((step_onw (Or.inr (Or.inl rfl))).trans Hr.u) Hok.u).1 rfl).2
               go_wp2
               go_roundw
               case rel => exact ⟨k + 1, a1, d1, o1, by omega, by go_num, rfl, Hy.u, Hat.u.next Hb1.u a1 d1 o1, by show _ = _; rw [← Hp.u, Hx.u]⟩
               case measure => simp [intOf]; omega
         · obtain rfl : a = 11 := by omega
           go_wp2_with fail
           go_region_with (go_at_call 152; refine (onward_any 11 d o _ _ (Or.inr (Or.inr rfl)) hd0 hd1 ho0 (by omega)).mono ?_; rintro e w1 ⟨⟨a1, d1, o1, ok1, rfl, hr⟩, hb⟩; have Hr := hI hr; have Hb1 := hI hb.undrew; have c0 := (hb.cell (p := ⟨w.heap.size, 0, none⟩) hsz).trans hc0; have c1 := (hb.cell (p := ⟨w.heap.size, 1, none⟩) hsz).trans hc1; have c2 := (hb.cell (p := ⟨w.heap.size, 2, none⟩) hsz).trans hc2; have f0 := (hb.frozen (p := ⟨w.heap.size, 0, none⟩) hsz).trans hf0; have f1 := (hb.frozen (p := ⟨w.heap.size, 1, none⟩) hsz).trans hf1; have f2 := (hb.frozen (p := ⟨w.heap.size, 2, none⟩) hsz).trans hf2; clear hr hb)
           all_goals
             cases ok1
             · have Hx := hI ((plc_at hlt ((step_onw (Or.inr (Or.inr rfl))).trans Hr.u) Hok.u).2 rfl)
               go_wp2
               go_ret
               exact ⟨ret_int (by rw [← Hp.u, Hx.u]), (Hat.u.next Hb1.u a1 d1 o1).2⟩
             · have Hx := hI ((plc_at hlt ((step_onw (Or.inr (Or.inr rfl))).trans Hr.u) Hok.u).1 rfl).1
               have Hy := hI ((plc_at hlt ((step_onw (Or.inr (Or.inr rfl))).trans Hr.u) Hok.u).1 rfl).2
               go_wp2
               go_roundw
               case rel => exact ⟨k + 1, a1, d1, o1, by omega, by go_num, rfl, Hy.u, Hat.u.next Hb1.u a1 d1 o1, by show _ = _; rw [← Hp.u, Hx.u]⟩
               case measure => simp [intOf]; omega
   · have Hend := hI (L_drop_end s k (by omega))
     have hkk : (k : Int) = s.size := by omega
     have Hkk := hI hkk
     clear hkk
     have hcc : a = 0 ∨ a = 1 ∨ a = 2 ∨ a = 3 ∨ a = 4 ∨ a = 5 ∨ a = 6 ∨ a = 7 ∨ a = 8 ∨ a = 9 ∨ a = 10 ∨ a = 11 := by omega
     by_cases ho : 0 < o
     all_goals rcases hcc with rfl | rfl | rfl | rfl | rfl | rfl | rfl | rfl | rfl | rfl | rfl | rfl
     all_goals
       have Hval := Hp.u
       rw [Hend.u] at Hval
       simp [plc, ho] at Hval
       have Hv := hI Hval
       clear Hval
       go_wp2
       go_ret
       exact ⟨ret_int (by rw [← Hv.u] <;> first | rfl | exact Hkk.u.symm), Hat.u.2⟩
end Go.Proofs.YtdchbenfccofpaaGreatDoor
