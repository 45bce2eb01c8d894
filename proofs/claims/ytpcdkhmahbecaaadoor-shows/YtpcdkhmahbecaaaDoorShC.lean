/- Walks of Show: a - ahead of a piece, an operation between two. -/
import Derived.Test.YtpcdkhmahbecaaaDoorShB
namespace Go.Proofs.YtpcdkhmahbecaaaDoor
open Go.RowKit Db

theorem blk_second (w : World) (A B C : Array Value) (T : TypeId) : Blk (((w.alloc (.cells A T)).alloc (.cells B T)).alloc (.cells C T)) (w.heap.size + 1) B T := by
  have := (Blk.new (w.alloc (.cells A T)) B T).alloc (.cells C T)
  simpa using this
theorem blk_third (w : World) (A B C : Array Value) (T : TypeId) : Blk (((w.alloc (.cells A T)).alloc (.cells B T)).alloc (.cells C T)) (w.heap.size + 2) C T := by
  have := Blk.new ((w.alloc (.cells A T)).alloc (.cells B T)) C T
  simpa using this
theorem brk_size (x : Pc) (k : Nat) : (brk x k).length ≤ x.1.length + 2 := by
  unfold brk; split <;> simp

set_option maxRecDepth 100000 in
set_option maxHeartbeats 1000000 in
theorem showOpposite_any (x : ByteArray) (r : Nat) (w : World) (hx : x.size ≤ 900000) :
    Calls Tryd.prog 52 #[.agg #[.string x, .int .i64 (r : Int)]] w fun e w' => ∃ u : ByteArray, e = .returned (.agg #[.string u, .int .i64 3]) ∧ L u = 45 :: brk (L x, r) 3 ∧ Below w.heap.size w w' := by
  go_enter Tryd.func52, Tryd.ntmps52
  go_wp2_with fail
  refine (bracketed_any x r 3 _ (by omega)).mono ?_
  rintro e w1 ⟨u, rfl, hu, hb⟩
  have hus : u.size ≤ 1000000 := by
    rw [size_L, hu]
    have := brk_size (L x, r) (3 : Int).toNat
    simp only [L_length] at this
    omega
  have HB : Hid (Blk w1 (w.heap.size + 1) #[.string ⟨#[]⟩, .int .i64 0] 118) := by
    refine Blk.kept ?_ hb
    have := Blk.new (w.alloc (.cells #[.string x, .int .i64 (r : Int)] 118)) #[.string ⟨#[]⟩, .int .i64 0] 118
    simpa using this
  have Hb : Hid (Below w.heap.size w w1) := (((Below.refl _ _).alloc (Nat.le_refl _) _).alloc (by simp) _).then' (by simp; omega) hb
  have Hu := hide hu
  have c0 := (unhide HB).cell 0
  have c1 := (unhide HB).cell 1
  have z0 := (unhide HB).frozen 0
  have z1 := (unhide HB).frozen 1
  simp only [List.getElem?_toArray, List.getElem?_cons_zero, List.getElem?_cons_succ] at c0 c1
  clear hu hb
  go_wp2_with fail
  refine bodyPost_ret (v := .agg #[.string (⟨#[45]⟩ ++ u), .int .i64 3]) (by simp [results, Tryd.results52, go_sem, c0, c1]) rfl ⟨_, rfl, ?_, ?_⟩
  · rw [L_append, unhide Hu]; rfl
  · exact ((unhide Hb).setCell (by simp) _).setCell (by simp) _

set_option maxRecDepth 100000 in
set_option maxHeartbeats 2000000 in
theorem showOperation_any (o : UInt8) (x y : ByteArray) (r q : Nat) (w : World) (hx : x.size ≤ 400000) (hy : y.size ≤ 400000) :
    Calls Tryd.prog 53 #[.int .u8 (o.toNat : Int), .agg #[.string x, .int .i64 (r : Int)], .agg #[.string y, .int .i64 (q : Int)]] w fun e w' =>
      ∃ u : ByteArray, e = .returned (.agg #[.string u, .int .i64 (rkS o.toNat : Int)]) ∧ L u = brk (L x, r) (rkS o.toNat) ++ o :: brk (L y, q) (rkS o.toNat + 1) ∧ Below w.heap.size w w' := by
  obtain ⟨k, hk, hk2⟩ : ∃ k : Nat, rkS (o.toNat : Int) = k ∧ (k = 1 ∨ k = 2) := ⟨_, rfl, by unfold rkS; split <;> simp⟩
  have Hk := hide hk
  have hor : ((o.toNat : Int) == 42) = true ∧ k = 2 ∨ ((o.toNat : Int) == 42) = false ∧ ((o.toNat : Int) == 47) = true ∧ k = 2 ∨ ((o.toNat : Int) == 42) = false ∧ ((o.toNat : Int) == 47) = false ∧ k = 1 := by
    unfold rkS at hk
    cases h1 : ((o.toNat : Int) == 42) <;> cases h2 : ((o.toNat : Int) == 47) <;> simp [h1, h2] at hk ⊢ <;> omega
  rw [hk]
  clear hk hk2
  rcases hor with ⟨h1, rfl⟩ | ⟨h1, h2, rfl⟩ | ⟨h1, h2, rfl⟩
  all_goals
    go_enter Tryd.func53, Tryd.ntmps53
    go_wp2_with fail
    refine (bracketed_any x r _ _ (by omega)).mono ?_
    rintro e w1 ⟨u1, rfl, hu1, hb1⟩
    have hs1 : u1.size ≤ 400002 := by
      rw [size_L, hu1]
      refine Nat.le_trans (brk_size _ _) ?_
      simp only [L_length]
      omega
    have HB1 : Hid (Blk w1 (w.heap.size + 1) #[.string y, .int .i64 (q : Int)] 118) := (blk_second w _ _ _ _).kept hb1
    have HB2 : Hid (Blk w1 (w.heap.size + 2) #[.string ⟨#[]⟩, .int .i64 0] 118) := (blk_third w _ _ _ _).kept hb1
    have Hb1 : Hid (Below w.heap.size w w1) := ((((Below.refl _ _).alloc (Nat.le_refl _) _).alloc (by simp) _).alloc (by simp; omega) _).then' (by simp; omega) hb1
    have Hu1 := hide hu1
    have f0 := (unhide HB1).cell 0
    have f1 := (unhide HB1).cell 1
    have hw1 := hb1.size
    simp only [List.getElem?_toArray, List.getElem?_cons_zero, List.getElem?_cons_succ] at f0 f1
    simp at hw1
    clear hu1 hb1
    go_wp2_with fail
    refine (bracketed_any y q _ _ (by omega)).mono ?_
    rintro e w2 ⟨u2, rfl, hu2, hb2⟩
    have hs2 : u2.size ≤ 400002 := by
      rw [size_L, hu2]
      refine Nat.le_trans (brk_size _ _) ?_
      simp only [L_length]
      omega
    have HB3 := hide ((unhide HB2).kept hb2)
    have Hb2 := hide ((unhide Hb1).then hb2)
    have Hu2 := hide hu2
    clear hu2 hb2 f0 f1
    go_wp2_with fail
    refine (signText_any o _).mono ?_
    rintro e w3 ⟨u3, rfl, hu3, hb3⟩
    have hs3 : u3.size = 1 := by rw [size_L, hu3]; rfl
    have HB4 := hide ((unhide HB3).kept hb3)
    have Hb3 := hide ((unhide Hb2).then hb3)
    have Hu3 := hide hu3
    have g0 := (unhide HB4).cell 0
    have g1 := (unhide HB4).cell 1
    have y0 := (unhide HB4).frozen 0
    have y1 := (unhide HB4).frozen 1
    simp only [List.getElem?_toArray, List.getElem?_cons_zero, List.getElem?_cons_succ] at g0 g1
    have hs3' : u3.size ≤ 1 := by omega
    clear hu3 hb3 hs3
    go_wp2_with fail
    first
      | refine bodyPost_ret (v := .agg #[.string (u1 ++ u3 ++ u2), .int .i64 2]) (by simp [results, Tryd.results53, go_sem, g0, g1]) rfl ⟨_, rfl, ?_, ?_⟩
      | refine bodyPost_ret (v := .agg #[.string (u1 ++ u3 ++ u2), .int .i64 1]) (by simp [results, Tryd.results53, go_sem, g0, g1]) rfl ⟨_, rfl, ?_, ?_⟩
    · rw [L_append, L_append, unhide Hu1, unhide Hu2, unhide Hu3]
      show brk _ _ ++ [o] ++ brk _ _ = brk _ _ ++ o :: brk _ _
      rw [List.append_assoc]; rfl
    · exact ((unhide Hb3).setCell (by show _ ≤ w.heap.size + 2; omega) _).setCell (by show _ ≤ w.heap.size + 2; omega) _

end Go.Proofs.YtpcdkhmahbecaaaDoor
